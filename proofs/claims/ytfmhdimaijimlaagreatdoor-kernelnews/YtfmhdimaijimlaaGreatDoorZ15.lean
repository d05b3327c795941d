import Derived.Test.YtfmhdimaijimlaaGreatDoorZ14
set_option linter.all false
set_option maxRecDepth 1000000
set_option maxHeartbeats 8000000
open Go.Proofs.Tryz
variable {w w' w1 w2:Go.World}{n m k i j b g base kn:Nat}{a:Option Go.Addr}
namespace Go.Proofs.YtfmhdimaijimlaaGreatDoor.L
open Go.RowKit H
def eV (X:List Tk)(l:Fo)(c:Cp):Int:=rg X (aB X l c)
def bV (X:List Tk)(l:Fo)(need:Int)(c:Cp):Int:=if aK X l c=false then 3 else if aA need (eV X l c)=false then 4 else 0
theorem eA (X:List Tk)(l:Fo)(need:Int)(c:Cp):(aK X l c=false/\bV X l need c=3)\/(aK X l c=true/\aA need (eV X l c)=false/\bV X l need c=4)\/(aK X l c=true/\aA need (eV X l c)=true/\bV X l need c=0):=by
 unfold bV
 cases h1:aK X l c with
 | false=>exact .inl ⟨rfl,by simp⟩
 | true =>
  cases h2:aA need (eV X l c) with
  | false=>exact .inr (.inl ⟨rfl,rfl,by simp⟩)
  | true=>exact .inr (.inr ⟨rfl,rfl,by simp⟩)
def ct (g:Cp->Int)(o:Int):List Cp->Int->Cp×Int
 | [],e=>((0,0,0),e)
 | c::r,e=>if c.1≠o then ct g o r e else if g c=0 then (c,0) else if g c=4 then ct g o r 4 else ct g o r e
theorem xP {g:Cp->Int}{o:Int}{K:List Cp}{i:Nat}{c:Cp}(h:K[i]?=some c)(e:Int) :
  ct g o (K.drop i) e=if c.1≠o then ct g o (K.drop (i+1)) e else if g c=0 then (c,0) else if g c=4 then ct g o (K.drop (i+1)) 4 else ct g o (K.drop (i+1)) e:=by
 obtain⟨hi,rfl⟩:=gS.1 h
 rw [List.drop_eq_getElem_cons hi]
 rfl
theorem zo {g:Cp->Int}{o:Int}{K:List Cp}(h:K.length<=i)(e:Int):ct g o (K.drop i) e=((0,0,0),e):=by
 rw [List.drop_eq_nil_of_le h];rfl
def Tr (X:List Tk)(l:Fo)(T:Nat->List K.Pu):Prop:=∀r x,x∈T r->aK X l x.1=true/\eV X l x.1=x.2
variable {X:List Tk}{l:Fo}{T:Nat->List K.Pu}{s n k:Nat}
theorem Tr.zero (X:List Tk)(l:Fo):Tr X l K.T0:=λr x hx=>by cases hx
theorem Tr.get (h:Tr X l T){c:Cp}(hg:(K.iJ s k T c).2=true):aK X l c=true/\(K.iJ s k T c).1=eV X l c:=by
 unfold K.iJ at hg ⊢
 by_cases hs:s=0
 ·rw [if_pos hs] at hg;cases hg
 ·rw [if_neg hs] at hg ⊢
  unfold K.Du at hg ⊢
  cases hf:(T (K.fS k s c)).find? (λx=>x.1=c) with
  | none=>rw [hf] at hg;cases hg
  | some x =>
   have h1:=List.mem_of_find?_eq_some hf
   have h2:x.1=c:=by simpa using List.find?_some hf
   obtain⟨h3,h4⟩:=h _ x h1
   rw [h2] at h3 h4
   exact⟨h3,h4.symm⟩
theorem Tr.put (h:Tr X l T){c:Cp}(hc:aK X l c=true):Tr X l (K.sJ s n k T c (eV X l c)):=λr x hx=>by
 unfold K.sJ at hx
 split at hx
 ·exact h r x hx
 ·simp only at hx
  split at hx
  ·unfold K.nf at hx
   rcases List.mem_cons.1 (List.mem_of_mem_take hx) with rfl|h1
   ·exact⟨hc,rfl⟩
   ·exact h _ x (List.mem_filter.1 h1).1
  ·exact h r x hx
theorem GX (h:Inv m X l){j:Nat}(x:Tk)(hj:(j:Int)∉ah l){a:Int}(ha:a∈ah l):tk (X.set j x) a=tk X a:=bX _ (bj h.ok ha) (λe=>hj (e ▸ ha))
theorem Tr.add {m:Nat}(h:Tr X l T)(hv:Inv m X l)(p:Int)(c:Cp)(r:Int)(hv2:Inv m (gF m X l p c r).X (gF m X l p c r).l):Tr (gF m X l p c r).X (gF m X l p c r).l T:=by
 revert hv2
 unfold gF
 by_cases h1:aK X l c=true
 ·rw [if_pos h1];exact λ_=>h
 ·rw [if_neg h1]
  by_cases h2:l.length=m
  ·rw [if_pos h2];exact λ_=>h
  ·rw [if_neg h2]
   intro hv2
   have hv2:Inv m (X.set (low l) (c,r)) (l++[((low l:Int),p)]):=hv2
   intro q x hx
   obtain⟨h3,h4⟩:=h q x hx
   obtain⟨a,ha,e⟩:=bB.1 h3
   have ht:=GX hv (c,r) (fz l) ha
   have ha2:a∈ah (l++[((low l:Int),p)]):=by rw [cQ];exact List.mem_append_left _ ha
   have h5:aB (X.set (low l) (c,r)) (l++[((low l:Int),p)]) x.1=a:=by
    have:=dC hv2 ha2
    rw [ht,e] at this
    exact this
   have h6:aB X l x.1=a:=by rw [<-e];exact dC hv ha
   refine⟨bB.2 ⟨a,ha2,by rw [ht];exact e⟩,?_⟩
   show rg (X.set (low l) (c,r)) (aB (X.set (low l) (c,r)) (l++[((low l:Int),p)]) x.1)=x.2
   rw [<-h4]
   unfold eV
   rw [h5,h6]
   unfold rg
   rw [ht]
theorem found (h:Inv m X l){c:Cp}(hc:aK X l c=true):aB X l c∈ah l/\(tk X (aB X l c)).1=c:=by
 obtain⟨a,ha,e⟩:=bB.1 hc
 have:=dC h ha
 rw [e] at this
 rw [this]
 exact⟨ha,e⟩
theorem Fy (a b:Int)(w:World):Calls prog 197 #[.int .i64 a,.int .i64 b] w λe w'=>e=.returned (.bool (aA b a))/\w'=w:=by
 have hp:=aa (fb b a)
 go_enter func197,ntmps197
 go_wp2_with (first|(go_at_call 178;refine (hp.out _).mono ?_;rintro e w9 ⟨rfl,hw9⟩;obtain rfl:=hw9.symm;clear hw9))
 go_ret
 exact⟨rfl,rfl⟩
def dz (X:List Tk)(l:Fo)(c:Cp):Int:=if aK X l c=false then 0 else eV X l c
theorem BW {A:Ad}{mo:Nat}{X:List Tk}{l:Fo}(h:ie w A kn mo X l)(c:Cp)(hw:c.2.1<ak/\c.2.2<ak) :
  Calls prog 309 #[.agg #[.pointer (some ⟨A.g,0,none⟩)],ir c] w λe w'=>e=.returned (.tuple #[.int .i64 (dz X l c),.bool (aK X l c)])/\Below w.heap.size w w':=by
 obtain⟨o,hi,lo⟩:=c
 obtain⟨w0,hw0⟩:∃w0,w0=(w.alloc (Obj.cells #[.pointer (some ⟨A.g,0,none⟩)] 174)).alloc (Obj.cells #[.int .i64 o,.int .u64 (hi:Int),.int .u64 (lo:Int)] 38):=⟨_,rfl⟩
 have hB0:Below w.heap.size w w0:=by rw [hw0];exact aw _ _ _
 have y1:w0.cell? ⟨w.heap.size,0,none⟩=some (.pointer (some ⟨A.g,0,none⟩)):=by rw [hw0];simp [go_sem]
 have x0:w0.cell? ⟨w.heap.size+1,0,none⟩=some (.int .i64 o):=by rw [hw0];simp [go_sem]
 have x1:w0.cell? ⟨w.heap.size+1,1,none⟩=some (.int .u64 (hi:Int)):=by rw [hw0];simp [go_sem]
 have x2:w0.cell? ⟨w.heap.size+1,2,none⟩=some (.int .u64 (lo:Int)):=by rw [hw0];simp [go_sem]
 have HY:Hid (∀U,Below w0.heap.size w0 U->U.cell? ⟨w.heap.size,0,none⟩=some (.pointer (some ⟨A.g,0,none⟩))):=λU hU=>cell_later hU y1
 have HB0:=aa hB0
 have HF:=aa (gQ (h.later hB0) (o,hi,lo) hw)
 unfold dz
 by_cases hc:aK X l (o,hi,lo)=false
 ·rw [hc] at HF
  simp only [hc,if_true]
  obtain⟨m,hm⟩:∃m,m=aB X l (o,hi,lo):=⟨_,rfl⟩
  rw [<-hm] at HF
  clear h hB0 hc hm
  go_enter func309,ntmps309
  go_upto_region 1 with fail
  rw [<-hw0]
  clear hw0
  go_wp2_with (first
   | (go_at_call 196;refine HF.o.mono ?_;rintro e w2 ⟨rfl,hb2⟩;have HB2:=aa (al HB0.o hb2);clear hb2))
  exact bodyPost_ret (v:=.tuple #[.int .i64 0,.bool false]) (by simp [results,results309,go_sem]) rfl ⟨rfl,HB2.o⟩
 ·have hc':aK X l (o,hi,lo)=true:=by simpa using hc
  rw [hc'] at HF
  simp only [hc',Bool.true_eq_false,if_false]
  obtain⟨hfn,hft⟩:=found h.inv hc'
  obtain⟨p,hp⟩:=cE.1 hfn
  have HA:=aa (λ(U:World) (hU:Below w.heap.size w U)=>lQ (h.later hU).cm (aB X l (o,hi,lo)) p hp)
  unfold eV
  rw [hft] at HA
  obtain⟨m,hm⟩:∃m,m=aB X l (o,hi,lo):=⟨_,rfl⟩
  rw [<-hm] at HF HA
  rw [<-hm]
  obtain⟨q,hq⟩:∃q,q=rg X m:=⟨_,rfl⟩
  rw [<-hq] at HA
  rw [<-hq]
  unfold mZ at HA
  clear h hB0 hc hc' hm hq hft hfn hp
  go_enter func309,ntmps309
  go_upto_region 1 with fail
  rw [<-hw0]
  clear hw0
  go_upto_region 4 with (first
   | (go_at_call 196;refine HF.o.mono ?_;rintro e w2 ⟨rfl,hb2⟩;have HB2:=aa (al HB0.o hb2);have z1:=HY.o _ hb2;clear hb2))
  go_wp2_with (first
   | (go_at_call 122;refine (HA.o w2 HB2.o).mono ?_;rintro e w3 ⟨rfl,hb3⟩;have HB3:=aa (al HB2.o hb3);clear hb3))
  exact bodyPost_ret (v:=.tuple #[.int .i64 q,.bool true]) (by simp [results,results309,go_sem]) rfl ⟨rfl,HB3.o.alloc HB3.o.size _⟩
structure Va (w:World)(v g c:Nat):Prop where
 c0:w.cell? ⟨v,0,none⟩=some (.pointer (some ⟨g,0,none⟩))
 c1:w.cell? ⟨v,1,none⟩=some (.iface 120 (.pointer (some ⟨g,0,none⟩)))
 c2:w.cell? ⟨v,2,none⟩=some (.iface 174 (.agg #[.pointer (some ⟨c,0,none⟩)]))
theorem Va.but {S:Nat->Prop}{v c:Nat}(h:Va w v g c)(hb:ae S w w')(hn:¬S v):Va w' v g c:=⟨aC hb h.c0 hn,aC hb h.c1 hn,aC hb h.c2 hn⟩
theorem Va.later {v c:Nat}(h:Va w v g c)(hb:Below w.heap.size w w'):Va w' v g c:=h.but (S:=λ_=>False) (ae.of hb) (λh=>h)
theorem Va.lt {v c:Nat}(h:Va w v g c):v<w.heap.size:=World.block_lt_of_cell? _ _ h.c0
theorem AR (v:Value)(w:World):(Instr.typeAssert (.iface 120 v) 176 174 true).run prog w=.ok (.tuple #[.agg #[.pointer none],.bool false]) w:=by kernel_rfl
theorem CV (v:Value)(w:World):(Instr.typeAssert (.iface 120 v) 176 120 true).run prog w=.ok (.tuple #[v,.bool true]) w:=by kernel_rfl
theorem wR (v:Value)(w:World):(Instr.typeAssert (.iface 174 v) 176 174 true).run prog w=.ok (.tuple #[v,.bool true]) w:=by kernel_rfl
theorem DB (v g:Nat)(c:Cp)(m:Int)(w:World) :
  Calls prog 236 #[.pointer (some ⟨v,0,none⟩),.iface 120 (.pointer (some ⟨g,0,none⟩)),ir c,.int .i64 m] w λe w'=>e=.returned (.tuple #[])/\Below w.heap.size w w':=by
 obtain⟨o,hi,lo⟩:=c
 have HB:=aa (ab w (Obj.cells #[.int .i64 o,.int .u64 (hi:Int),.int .u64 (lo:Int)] 38))
 have q1:=AR
 have q2:=CV
 go_enter func236,ntmps236
 go_wp2
 exact bodyPost_end (by simp [results,results236,go_sem]) rfl ⟨rfl,HB.o⟩
theorem C9 {v cg s E:Nat}{T:Nat->List K.Pu}{hi_ mi:Int}(hv:Va w v g cg)(hk:K.Kc w g s n k T E hi_ mi)(c:Cp)(m:Int)(hw:c.2.1<ak/\c.2.2<ak) :
  Calls prog 236 #[.pointer (some ⟨v,0,none⟩),.iface 174 (.agg #[.pointer (some ⟨cg,0,none⟩)]),ir c,.int .i64 m] w λe w'=>e=.returned (.tuple #[])/\K.Kc w' g s n k (K.sJ s n k T c m) E hi_ mi/\ae (λj=>j=g) w w':=by
 obtain⟨o,hi,lo⟩:=c
 obtain⟨w0,hw0⟩:∃w0,w0=w.alloc (Obj.cells #[.int .i64 o,.int .u64 (hi:Int),.int .u64 (lo:Int)] 38):=⟨_,rfl⟩
 have hB0:Below w.heap.size w w0:=by rw [hw0];exact ab _ _
 have HC:Hid (∀U,Below w0.heap.size w0 U->U.cell? ⟨v,0,none⟩=some (.pointer (some ⟨g,0,none⟩))/\U.cell? ⟨w.heap.size,0,none⟩=some (.int .i64 o)/\U.cell? ⟨w.heap.size,1,none⟩=some (.int .u64 (hi:Int))/\U.cell? ⟨w.heap.size,2,none⟩=some (.int .u64 (lo:Int))):=λU hU =>
  ⟨(hv.later (al hB0 hU)).c0,cell_later hU (by rw [hw0];simp [go_sem]),cell_later hU (by rw [hw0];simp [go_sem]),cell_later hU (by rw [hw0];simp [go_sem])⟩
 have HP:Hid (∀U,Below w0.heap.size w0 U->Calls prog 263 #[.pointer (some ⟨g,0,none⟩),.agg #[.int .i64 o,.int .u64 (hi:Int),.int .u64 (lo:Int)],.int .i64 m] U λx w'=>x=.returned (.tuple #[])/\K.Kc w' g s n k (K.sJ s n k T (o,hi,lo) m) E hi_ mi/\ae (λk=>k=g) U w'):=λU hU=>K.Jv (hk.later (al hB0 hU)) (o,hi,lo) m hw
 have HB0:=aa hB0
 have q1:=wR
 have HV0:=aa (hv.later hB0).c0
 have hne:¬v=g:=λe=>by
  have h1:=hv.c0
  rw [e] at h1
  obtain⟨_,R,hc,_⟩:=hk
  have h2:=hc.c0
  rw [h1] at h2;cases h2
 have HNE:=aa hne
 have HNW:Hid (¬w.heap.size=g):=λe=>by have:=hk.lt;omega
 clear hv hk hB0 hne
 go_enter func236,ntmps236
 go_upto_region 3 with fail
 rw [<-hw0]
 clear hw0
 go_region_held3 (λU=>U.cell? ⟨v,0,none⟩=some (.pointer (some ⟨g,0,none⟩))/\U.cell? ⟨w.heap.size,0,none⟩=some (.int .i64 o)/\U.cell? ⟨w.heap.size,1,none⟩=some (.int .u64 (hi:Int))/\U.cell? ⟨w.heap.size,2,none⟩=some (.int .u64 (lo:Int))) (first|exact HC2.o|exact HC.o _ (Below.refl _ _).drew|exact HC.o _ (Below.refl _ _)) (first
  | (go_at_call 263;refine (HP.o _ (Below.refl _ _).drew).mono ?_;rintro e w2 ⟨rfl,hk2,hb2⟩;have HK2:=aa hk2;have HB2:=aa ((ae.of (S:=λk=>k=g) (al HB0.o (Below.refl _ _).drew)).trans hb2);have HC2:=aa (And.intro (aC hb2 (HC.o _ (Below.refl _ _).drew).1 HNE.o) (And.intro (aC hb2 (HC.o _ (Below.refl _ _).drew).2.1 HNW.o) (And.intro (aC hb2 (HC.o _ (Below.refl _ _).drew).2.2.1 HNW.o) (aC hb2 (HC.o _ (Below.refl _ _).drew).2.2.2 HNW.o))));clear hk2 hb2))
 go_wp2
 exact bodyPost_end (by simp [results,results236,go_sem]) rfl ⟨rfl,HK2.o,HB2.o⟩
structure Hv where
 A:Ad
 kn:Nat
 mo:Nat
 g:Nat
 s:Nat
 n:Nat
 k:Nat
 v:Nat
 d:Nat
 r:Nat
 b:Nat
structure Hv.JD (H:Hv):Prop where
 g1:¬H.A.jC H.g
 v1:¬H.A.jC H.v
 v2:H.v≠H.g
 d1:¬H.A.jC H.d
 d2:H.d≠H.g
 r1:¬H.A.jC H.r
 r2:H.r≠H.g
 r3:H.r≠H.v
 r4:H.r≠H.d
 b1:¬H.A.jC H.b
 b2:H.b≠H.g
 b3:H.b≠H.v
 b4:H.b≠H.d
structure Vd (w:World)(H:Hv)(X:List Tk)(l:Fo)(T:Nat->List K.Pu):Prop where
 cat:ie w H.A H.kn H.mo X l
 ch:∃E hi mi,K.Kc w H.g H.s H.n H.k T E hi mi
 va:Va w H.v H.g H.A.g
 p_:H.JD
variable {w w':World}{H:Hv}{X:List Tk}{l:Fo}{T:Nat->List K.Pu}
theorem Vd.but {S:Nat->Prop}(h:Vd w H X l T)(hb:ae S w w')(h1:∀k,H.A.jC k->¬S k)(h2:¬S H.g)(h3:¬S H.v):Vd w' H X l T:=by
 obtain⟨E,hi,mi,hk⟩:=h.ch
 exact⟨h.cat.but hb h1,⟨E,hi,mi,hk.but hb h2⟩,h.va.but hb h3,h.p_⟩
theorem Vd.later (h:Vd w H X l T)(hb:Below w.heap.size w w'):Vd w' H X l T:=h.but (S:=λ_=>False) (ae.of hb) (λ_ _ h=>h) (λh=>h) (λh=>h)
def Vt (w:World)(H:Hv)(X:List Tk)(l:Fo):Prop:=∃T,Vd w H X l T/\Tr X l T
theorem Vt.but {S:Nat->Prop}(h:Vt w H X l)(hb:ae S w w')(h1:∀k,H.A.jC k->¬S k)(h2:¬S H.g)(h3:¬S H.v):Vt w' H X l:=by
 obtain⟨T,h,ht⟩:=h
 exact⟨T,h.but hb h1 h2 h3,ht⟩
theorem Vt.later (h:Vt w H X l)(hb:Below w.heap.size w w'):Vt w' H X l:=h.but (S:=λ_=>False) (ae.of hb) (λ_ _ h=>h) (λh=>h) (λh=>h)
theorem Vt.cat (h:Vt w H X l):ie w H.A H.kn H.mo X l:=by obtain⟨T,h,_⟩:=h;exact h.cat
def Vg (w:World)(H:Hv)(X:List Tk)(l:Fo):Prop:=∃T,Vd w H X l T
theorem Vd.keep (h:Vd w H X l T){T':Nat->List K.Pu}(hb:ae (λk=>k=H.g) w w')(hk:∃E hi mi,K.Kc w' H.g H.s H.n H.k T' E hi mi):Vd w' H X l T' :=
 ⟨h.cat.but hb (λk hk e=>h.p_.g1 (e ▸ hk)),hk,h.va.but hb h.p_.v2,h.p_⟩
theorem I1 (a:Addr)(w:World):(method 505 120 (.pointer (some a)) "Get").run prog w=.ok (306,.pointer (some a)) w:=by kernel_rfl
theorem GI (a:Addr)(w:World):(method 505 174 (.agg #[.pointer (some a)]) "Get").run prog w=.ok (309,.agg #[.pointer (some a)]) w:=by kernel_rfl
theorem JJ (a b:Value)(w:World):(Instr.index 177 (.agg #[a,b]) (.int .i64 0)).run prog w=.ok a w:=by kernel_rfl
theorem Jy (a b:Value)(w:World):(Instr.index 177 (.agg #[a,b]) (.int .i64 1)).run prog w=.ok b w:=by kernel_rfl
variable {w w':World}{H:Hv}{X:List Tk}{l:Fo}{T:Nat->List K.Pu}
def Kk (w:World)(H:Hv)(T:Nat->List K.Pu):Prop:=∃E hi mi,K.Kc w H.g H.s H.n H.k T E hi mi
def It (w1:World)(H:Hv)(T:Nat->List K.Pu)(q b:Bool)(t:Value)(w:World):Prop :=
 ∃i:Nat,t=.int .i64 (i:Int)/\i<=2/\(1<=i->q=false)/\(2<=i->b=false)/\Kk w H T/\ae (λk=>k=H.g) w1 w
theorem tA (h:Vt w H X l)(c:Cp)(hw:c.2.1<ak/\c.2.2<ak) :
  Calls prog 206 #[.pointer (some ⟨H.v,0,none⟩),ir c] w λe w'=>e=.returned (.tuple #[.int .i64 (dz X l c),.bool (aK X l c)])/\Vt w' H X l/\ae (λk=>k=H.g) w w':=by
 obtain⟨T,h,ht⟩:=h
 obtain⟨o,hi,lo⟩:=c
 obtain⟨w1,hw1⟩:∃w1,w1=w.alloc (Obj.cells #[.int .i64 o,.int .u64 (hi:Int),.int .u64 (lo:Int)] 38):=⟨_,rfl⟩
 have hB1:Below w.heap.size w w1:=by rw [hw1];exact ab _ _
 have hgl:H.g<w.heap.size:=by obtain⟨_,_,_,hk⟩:=h.ch;exact hk.lt
 have h1:=h.later hB1
 have HV:=aa (λ(U:World) (hU:ae (λk=>k=H.g) w1 U)=>h1.va.but hU h.p_.v2)
 have HC:Hid (∀U:World,ae (λk=>k=H.g) w1 U->U.cell? ⟨w.heap.size,0,none⟩=some (.int .i64 o)/\U.cell? ⟨w.heap.size,1,none⟩=some (.int .u64 (hi:Int))/\U.cell? ⟨w.heap.size,2,none⟩=some (.int .u64 (lo:Int))):=λU hU =>
  have hne:¬w.heap.size=H.g:=by omega
  ⟨aC hU (by rw [hw1];simp [go_sem]) hne,aC hU (by rw [hw1];simp [go_sem]) hne,aC hU (by rw [hw1];simp [go_sem]) hne⟩
 have HK:=aa (λ(U:World) (hU:ae (λk=>k=H.g) w1 U) (T':Nat->List K.Pu) (ht':Tr X l T') (hk:Kk U H T')=>(show Vt U H X l from ⟨T',h1.keep hU hk,ht'⟩))
 have HCt:=aa (λ(U:World) (hU:ae (λk=>k=H.g) w1 U)=>BW (h1.cat.but hU (λk hk e=>h.p_.g1 (e ▸ hk))) (o,hi,lo) hw)
 have HT:=aa ht
 have HGt:Hid ((K.iJ H.s H.k T (o,hi,lo)).2=true->(K.iJ H.s H.k T (o,hi,lo)).1=dz X l (o,hi,lo)/\aK X l (o,hi,lo)=true):=λe=>by
  obtain⟨e1,e2⟩:=ht.get e
  exact⟨by unfold dz;rw [e1,e2];rfl,e1⟩
 have HG:Hid (∀U,Kk U H T->Calls prog 306 #[.pointer (some ⟨H.g,0,none⟩),.agg #[.int .i64 o,.int .u64 (hi:Int),.int .u64 (lo:Int)]] U λx w'=>x=.returned (.tuple #[.int .i64 (K.iJ H.s H.k T (o,hi,lo)).1,.bool (K.iJ H.s H.k T (o,hi,lo)).2])/\Kk w' H T/\ae (λk=>k=H.g) U w'):=λU ⟨E,h1,m1,hk⟩=>(K.JC hk (o,hi,lo) hw).mono (λx w' hx=>⟨hx.1,⟨_,_,_,hx.2.1⟩,hx.2.2⟩)
 have HL:Hid (∀U,ae (λk=>k=H.g) w1 U->Kk U H T->aK X l (o,hi,lo)=true->Calls prog 236 #[.pointer (some ⟨H.v,0,none⟩),.iface 174 (.agg #[.pointer (some ⟨H.A.g,0,none⟩)]),.agg #[.int .i64 o,.int .u64 (hi:Int),.int .u64 (lo:Int)],.int .i64 (dz X l (o,hi,lo))] U λx w'=>x=.returned (.tuple #[])/\Vt w' H X l/\ae (λk=>k=H.g) U w'):=λU hU ⟨E,a1,m1,hk⟩ hb=>by
  have hs:dz X l (o,hi,lo)=eV X l (o,hi,lo):=by unfold dz;rw [hb];rfl
  rw [hs]
  refine (C9 (h1.va.but hU h.p_.v2) hk (o,hi,lo) (eV X l (o,hi,lo)) hw).mono ?_
  rintro x w' ⟨rfl,hk',hb'⟩
  exact⟨rfl,⟨_,h1.keep (hU.trans hb') ⟨_,_,_,hk'⟩,ht.put hb⟩,hb'⟩
 have HSn:Hid (aK X l (o,hi,lo)=false->dz X l (o,hi,lo)=0):=λe=>by unfold dz;rw [e];rfl
 have HK0:Hid (Kk w1 H T):=h1.ch
 have v0:=(HV.o w1 (ae.refl _ _)).c0
 have v1:=(HV.o w1 (ae.refl _ _)).c1
 have v2:=(HV.o w1 (ae.refl _ _)).c2
 have HB1:=aa hB1
 have m1:=I1
 have m2:=GI
 have i0:=λw=>JJ (.iface 120 (.pointer (some ⟨H.g,0,none⟩))) (.iface 174 (.agg #[.pointer (some ⟨H.A.g,0,none⟩)])) w
 have i1:=λw=>Jy (.iface 120 (.pointer (some ⟨H.g,0,none⟩))) (.iface 174 (.agg #[.pointer (some ⟨H.A.g,0,none⟩)])) w
 clear h h1 ht hw hB1 hgl
 generalize (K.iJ H.s H.k T (o,hi,lo)).1=gm at *
 generalize (K.iJ H.s H.k T (o,hi,lo)).2=gq at *
 generalize dz X l (o,hi,lo)=sm at *
 generalize aK X l (o,hi,lo)=sq at *
 go_enter func206,ntmps206
 go_upto_region 1 with fail
 rw [<-hw1]
 clear hw1
 go_upto_region 2 with fail
 clear v0 v1 v2
 go_loopw [14] (It w1 H T gq sq) (λt _=>2 - (intOf t).toNat)
 case atStart=>exact⟨0,rfl,by omega,λe=>by omega,λe=>by omega,HK0.o,ae.refl _ _⟩
 case round =>
  obtain⟨i,rfl,hi2,hg1,hg2,hk,hB⟩:=hrel
  have HB:=aa hB
  have HKw:=aa hk
  obtain⟨c0,c1,c2⟩:=HC.o _ hB
  rcases Nat.lt_or_ge i 1 with hi0|hi1
  ·obtain rfl:i=0:=by omega
   clear hg1 hg2 hk hB hi2 hi0
   simp only [Int.cast_ofNat_Int]
   cases gq with
   | true =>
    obtain⟨rfl,rfl⟩:=HGt.o rfl
    go_upto_region 6 with (first|(go_at_call 306;refine (HG.o _ HKw.o).mono ?_;rintro e w2 ⟨rfl,hk2,hb2⟩;have HK2:=aa hk2;have HB2:=aa (HB.o.trans hb2);clear hk2 hb2))
    clear c0 c1 c2
    obtain⟨c0,c1,c2⟩:=HC.o _ HB2.o
    go_wp2_with (first|(go_at_call 236;refine (DB H.v H.g (o,hi,lo) gm _).mono ?_;rintro e w3 ⟨rfl,hb3⟩;have HK3:Hid (Vt w3 H X l):=(HK.o _ HB2.o T HT.o HK2.o).later hb3;have HB3:=aa (HB2.o.call hb3);clear hb3))
    exact bodyPost_ret (v:=.tuple #[.int .i64 gm,.bool true]) (by simp [results,results206,go_sem]) rfl ⟨rfl,HK3.o,(ae.of (S:=λk=>k=H.g) HB1.o).trans HB3.o⟩
   | false =>
    go_wp2_with (first|(go_at_call 306;refine (HG.o _ HKw.o).mono ?_;rintro e w2 ⟨rfl,hk2,hb2⟩;have HK2:=aa hk2;have HB2:=aa (HB.o.trans hb2);clear hk2 hb2))
    exact⟨⟨1,rfl,by omega,λ_=>rfl,λh=>by omega,HK2.o,HB2.o⟩,by simp [intOf]⟩
  ·have hq:=hg1 hi1
   rcases Nat.lt_or_ge i 2 with hi0|hi2'
   ·obtain rfl:i=1:=by omega
    clear hg1 hg2 hk hB hi2 hi0 hi1
    simp only [Int.cast_ofNat_Int]
    cases sq with
    | true =>
     go_upto_region 6 with (first|(go_at_call 309;refine (HCt.o _ HB.o).mono ?_;rintro e w2 ⟨rfl,hb2⟩;have HB2:=aa (HB.o.call hb2);have HK2:Hid (Kk w2 H T):=(by obtain⟨E,x1,x2,hk⟩:=HKw.o;exact⟨E,x1,x2,hk.later hb2⟩);clear hb2))
     clear c0 c1 c2
     obtain⟨c0,c1,c2⟩:=HC.o _ HB2.o
     go_wp2_with (first|(go_at_call 236;refine (HL.o _ HB2.o HK2.o (by simp)).mono ?_;rintro e w3 ⟨rfl,hv3,hb3⟩;have HV3:=aa hv3;have HB3:=aa (HB2.o.trans hb3);clear hv3 hb3))
     exact bodyPost_ret (v:=.tuple #[.int .i64 sm,.bool true]) (by simp [results,results206,go_sem]) rfl ⟨rfl,HV3.o,(ae.of (S:=λk=>k=H.g) HB1.o).trans HB3.o⟩
    | false =>
     go_wp2_with (first|(go_at_call 309;refine (HCt.o _ HB.o).mono ?_;rintro e w2 ⟨rfl,hb2⟩;have HB2:=aa (HB.o.call hb2);have HK2:Hid (Kk w2 H T):=(by obtain⟨E,x1,x2,hk⟩:=HKw.o;exact⟨E,x1,x2,hk.later hb2⟩);clear hb2))
     exact⟨⟨2,rfl,by omega,λ_=>hq,λ_=>rfl,HK2.o,HB2.o⟩,by simp [intOf]⟩
   ·obtain rfl:i=2:=by omega
    have hs:=hg2 hi2'
    subst hs
    obtain rfl:=HSn.o rfl
    clear hg1 hg2 hk hB hi2 hi1 hi2'
    simp only [Int.cast_ofNat_Int]
    go_wp2
    exact bodyPost_ret (v:=.tuple #[.int .i64 0,.bool false]) (by simp [results,results206,go_sem]) rfl ⟨rfl,HK.o _ HB.o T HT.o HKw.o,(ae.of (S:=λk=>k=H.g) HB1.o).trans HB.o⟩
variable {w w':World}{H:Hv}{X:List Tk}{l:Fo}{T:Nat->List K.Pu}
theorem om (h:Vt w H X l)(c:Cp)(need:Int)(hw:c.2.1<ak/\c.2.2<ak) :
  Calls prog 160 #[.pointer (some ⟨H.v,0,none⟩),ir c,.int .i64 need] w λe w'=>e=.returned (.int .i64 (bV X l need c))/\Vt w' H X l/\ae (λk=>k=H.g) w w':=by
 obtain⟨o,hi,lo⟩:=c
 obtain⟨w1,hw1⟩:∃w1,w1=w.alloc (Obj.cells #[.int .i64 o,.int .u64 (hi:Int),.int .u64 (lo:Int)] 38):=⟨_,rfl⟩
 have hB1:Below w.heap.size w w1:=by rw [hw1];exact ab _ _
 have x0:w1.cell? ⟨w.heap.size,0,none⟩=some (.int .i64 o):=by rw [hw1];simp [go_sem]
 have x1:w1.cell? ⟨w.heap.size,1,none⟩=some (.int .u64 (hi:Int)):=by rw [hw1];simp [go_sem]
 have x2:w1.cell? ⟨w.heap.size,2,none⟩=some (.int .u64 (lo:Int)):=by rw [hw1];simp [go_sem]
 have HR:=aa (tA (h.later hB1) (o,hi,lo) hw)
 have HB1:=aa hB1
 have HSr:Hid (aK X l (o,hi,lo)=true->dz X l (o,hi,lo)=eV X l (o,hi,lo)):=λe=>by unfold dz;rw [e];rfl
 clear h hB1 hw
 rcases eA X l need (o,hi,lo) with ⟨h1,h2⟩|⟨h1,h2,h3⟩|⟨h1,h2,h3⟩
 ·rw [h1] at HR
  rw [h2]
  clear h1 h2
  go_enter func160,ntmps160
  go_upto_region 1 with fail
  rw [<-hw1]
  clear hw1
  go_wp2_with (first|(go_at_call 206;refine HR.o.mono ?_;rintro e w2 ⟨rfl,hv2,hb2⟩;have HV2:=aa hv2;have HB2:=aa ((ae.of (S:=λk=>k=H.g) HB1.o).trans hb2);clear hv2 hb2))
  go_ret
  exact⟨rfl,HV2.o,HB2.o⟩
 ·have hs:=HSr.o h1
  rw [h1,hs] at HR
  rw [h3]
  have HH:=aa (Fy (eV X l (o,hi,lo)) need)
  rw [h2] at HH
  clear h1 h2 h3 hs
  generalize eV X l (o,hi,lo)=q at *
  go_enter func160,ntmps160
  go_upto_region 1 with fail
  rw [<-hw1]
  clear hw1
  go_wp2_with (first
   | (go_at_call 197;refine (HH.o _).mono ?_;rintro e w9 ⟨rfl,hw9⟩;obtain rfl:=hw9.symm;clear hw9)
   | (go_at_call 206;refine HR.o.mono ?_;rintro e w2 ⟨rfl,hv2,hb2⟩;have HV2:=aa hv2;have HB2:=aa ((ae.of (S:=λk=>k=H.g) HB1.o).trans hb2);clear hv2 hb2))
  go_ret
  exact⟨rfl,HV2.o,HB2.o⟩
 ·have hs:=HSr.o h1
  rw [h1,hs] at HR
  rw [h3]
  have HH:=aa (Fy (eV X l (o,hi,lo)) need)
  rw [h2] at HH
  clear h1 h2 h3 hs
  generalize eV X l (o,hi,lo)=q at *
  go_enter func160,ntmps160
  go_upto_region 1 with fail
  rw [<-hw1]
  clear hw1
  go_wp2_with (first
   | (go_at_call 197;refine (HH.o _).mono ?_;rintro e w9 ⟨rfl,hw9⟩;obtain rfl:=hw9.symm;clear hw9)
   | (go_at_call 206;refine HR.o.mono ?_;rintro e w2 ⟨rfl,hv2,hb2⟩;have HV2:=aa hv2;have HB2:=aa ((ae.of (S:=λk=>k=H.g) HB1.o).trans hb2);clear hv2 hb2))
  go_ret
  exact⟨rfl,HV2.o,HB2.o⟩
theorem Ax (h:Vg w H X l):Calls prog 158 #[.pointer (some ⟨H.v,0,none⟩)] w λe w'=>e=.returned (.tuple #[])/\Vt w' H X l/\ae (λk=>k=H.g) w w':=by
 obtain⟨T,h⟩:=h
 obtain⟨E,hi,mi,hk⟩:=h.ch
 have HT:=aa (K.E9 hk)
 have v0:=h.va.c0
 have HH:=aa h
 clear h hk
 go_enter func158,ntmps158
 go_wp2_with (first|(go_at_call 134;refine HT.o.mono ?_;rintro e w2 ⟨rfl,hk2,hb2⟩;have HK2:=aa hk2;have HB2:=aa hb2;clear hk2 hb2))
 exact bodyPost_end (by simp [results,results158,go_sem]) rfl ⟨rfl,⟨_,HH.o.keep HB2.o ⟨_,_,_,HK2.o⟩,Tr.zero _ _⟩,HB2.o⟩
def H8 (w1:World)(g s n k:Nat)(t:Value)(w:World):Prop :=
 ∃i:Nat,t=.int .i64 (i:Int)/\i<=256/\(∃E T hi mi,K.Kc w g s n k T E hi mi/\(1<=i->T=K.T0))/\ae (λk=>k=g) w1 w
theorem uq {s E:Nat}{hi mi:Int}(hk:K.Kc w g s n k T E hi mi) :
  Calls prog 89 #[.pointer (some ⟨g,0,none⟩)] w λe w'=>e=.returned (.tuple #[])/\(∃E hi mi,K.Kc w' g s n k K.T0 E hi mi)/\ae (λk=>k=g) w w':=by
 have HK:=aa hk
 clear hk
 go_enter func89,ntmps89
 go_upto_region 1 with fail
 go_loopw [2] (H8 w g s n k) (λt _=>256 - (intOf t).toNat)
 case atStart=>exact⟨0,rfl,by omega,⟨_,_,_,_,HK.o,λh=>by omega⟩,ae.refl _ _⟩
 case round =>
  obtain⟨i,rfl,hi2,⟨E',T',h1,h2,hk,ht⟩,hB⟩:=hrel
  have HB:=aa hB
  by_cases hlt:i<256
  ·have hd:decide ((i:Int)<256)=true:=dT (by omega)
   have HT:=aa (K.E9 hk)
   clear hk ht hB
   go_wp2_with (first|(go_at_call 134;refine HT.o.mono ?_;rintro e w2 ⟨rfl,hk2,hb2⟩;have HK2:=aa hk2;have HB2:=aa (HB.o.trans hb2);clear hk2 hb2))
   exact⟨⟨i+1,by go_num,by omega,⟨_,_,_,_,HK2.o,λ_=>rfl⟩,HB2.o⟩,by simp [intOf];omega⟩
  ·have hd:decide ((i:Int)<256)=false:=dF (by omega)
   have HK3:=aa hk
   rw [ht (by omega)] at HK3
   clear hk ht hB
   go_wp2
   exact bodyPost_end (by simp [results,results89,go_sem]) rfl ⟨rfl,⟨_,_,_,HK3.o⟩,HB.o⟩
theorem zv {s E c:Nat}{hi mi:Int}(hk:K.Kc w g s n k T E hi mi) :
  Calls prog 54 #[.pointer (some ⟨c,0,none⟩),.pointer (some ⟨g,0,none⟩)] w λe w'=>∃v,e=.returned (.pointer (some ⟨v,0,none⟩))/\Va w' v g c/\(∃E hi mi,K.Kc w' g s n k K.T0 E hi mi)/\w.heap.size<=v/\ae (λk=>k=g) w w':=by
 have HF:=aa (uq hk)
 clear hk
 go_enter func54,ntmps54
 go_upto_region 2 with (first|(go_at_call 89;refine HF.o.mono ?_;rintro e w2 ⟨rfl,hk2,hb2⟩;have HK2:=aa hk2;have HB2:=aa hb2;clear hk2 hb2))
 go_wp2
 go_ret
 obtain⟨E2,h2,m2,hk2⟩:=HK2.o
 exact⟨_,rfl,⟨by simp [go_sem],by simp [go_sem],by simp [go_sem]⟩,⟨_,_,_,hk2.later (ab _ _)⟩,HB2.o.size,HB2.o.alloc _⟩
variable {w w':World}{H:Hv}{X:List Tk}{l:Fo}{T:Nat->List K.Pu}
theorem _root_.Go.Proofs.YtfmhdimaijimlaaGreatDoor.Rd.JX {S:Nat->Prop}{K:List Cp}(h:Rd w a n K)(hb:ae S w w')(hn:0<n->∀k,aD a k->¬S k):Rd w' a n K:=by
 by_cases h0:0<n
 ·exact h.but hb (hn h0)
 ·exact⟨h.len,λh1=>absurd h1 h0⟩
def Dn (w:World)(b:Nat)(c:Cp):World:=((w.setCell ⟨b,0,none⟩ (.int .i64 c.1)).setCell ⟨b,1,none⟩ (.int .u64 (c.2.1:Int))).setCell ⟨b,2,none⟩ (.int .u64 (c.2.2:Int))
theorem bP {S:Nat->Prop}{a w:World}(h:ae S a w){b:Nat}(hb:S b)(c:Cp):ae S a (Dn w b c):=((h.setCell (p:=⟨b,0,none⟩) hb _).setCell (p:=⟨b,1,none⟩) hb _).setCell (p:=⟨b,2,none⟩) hb _
theorem yR {S:Nat->Prop}{a:World}(h:ae S a w)(hb:a.heap.size<=b)(c:Cp):ae S a (Dn w b c):=((h.put (p:=⟨b,0,none⟩) hb _).put (p:=⟨b,1,none⟩) hb _).put (p:=⟨b,2,none⟩) hb _
def I_ (w1:World)(H:Hv)(X:List Tk)(l:Fo)(K:List Cp)(o need:Int)(t s:Value)(w:World):Prop :=
 ∃(i:Nat) (e:Int),t=.int .i64 (i:Int)/\s=.int .i64 e/\i<=K.length/\ct (bV X l need) o K 3=ct (bV X l need) o (K.drop i) e/\Vt w H X l/\ae (λk=>k=H.g) w1 w
theorem xL (h:Vt w H X l)(o need:Int){K:List Cp}(cap:Nat)(hr:Rd w a n K)(hn:n<=9223372036854775807)(hk:∀c∈K,c.2.1<ak/\c.2.2<ak)(ha:0<n->∀k,aD a k->k≠H.g) :
  Calls prog 161 #[.pointer (some ⟨H.v,0,none⟩),.int .i64 o,.int .i64 need,.slice a n cap] w λe w'=>e=.returned (.tuple #[ir (ct (bV X l need) o K 3).1,.int .i64 (ct (bV X l need) o K 3).2])/\Vt w' H X l/\ae (λk=>k=H.g) w w':=by
 have hl:=hr.len
 subst hl
 obtain⟨w1,hw1⟩:∃w1,w1=w.alloc (Obj.cells #[.int .i64 0,.int .u64 0,.int .u64 0] 38):=⟨_,rfl⟩
 have hB1:Below w.heap.size w w1:=by rw [hw1];exact ab _ _
 have hgl:H.g<w.heap.size:=by obtain⟨_,⟨_,⟨_,_,_,hk⟩,_,_⟩,_⟩:=h;exact hk.lt
 have hL1:aq w1 ⟨w.heap.size,0,none⟩ (.int .i64 0)/\aq w1 ⟨w.heap.size,1,none⟩ (.int .u64 0)/\aq w1 ⟨w.heap.size,2,none⟩ (.int .u64 0):=by
  rw [hw1];exact⟨⟨by simp [go_sem],by simp [go_sem]⟩,⟨by simp [go_sem],by simp [go_sem]⟩,⟨by simp [go_sem],by simp [go_sem]⟩⟩
 have HL:Hid (∀U,ae (λk=>k=H.g) w1 U->aq U ⟨w.heap.size,0,none⟩ (.int .i64 0)/\aq U ⟨w.heap.size,1,none⟩ (.int .u64 0)/\aq U ⟨w.heap.size,2,none⟩ (.int .u64 0)):=λU hU =>
  have hne:¬w.heap.size=H.g:=by omega
  ⟨hL1.1.but hU hne,hL1.2.1.but hU hne,hL1.2.2.but hU hne⟩
 have HR:=aa (λ(U:World) (hU:ae (λk=>k=H.g) w1 U)=>(hr.later hB1).JX hU ha)
 have HW:=aa hk
 have HV1:=aa (h.later hB1)
 have HB1:=aa hB1
 have HEnd:Hid (∀U,ae (λk=>k=H.g) w1 U->ae (λk=>k=H.g) w U):=λU hU=>(ae.of hB1).trans hU
 have HEnd2:Hid (∀U,ae (λk=>k=H.g) w1 U->∀(x:Int) (y z:Nat),ae (λk=>k=H.g) w (Dn U w.heap.size (x,y,z))):=λU hU x y z=>yR ((ae.of hB1).trans hU) (Nat.le_refl _) _
 have HFin:Hid (∀U,Vt U H X l->∀(x:Int) (y z:Nat),Vt (Dn U w.heap.size (x,y,z)) H X l):=λU hU x y z=>hU.but (S:=λk=>k=w.heap.size) (bP (S:=λk=>k=w.heap.size) (ae.refl _ _) (b:=w.heap.size) rfl _) (λk hk e=>by have:=h.cat.lt k hk;omega) (by omega) (λe=>by obtain⟨_,⟨_,_,hva,_⟩,_⟩:=h;have:=hva.lt;omega)
 have HSz:Hid (w.heap.size<w1.heap.size):=by rw [hw1];simp [Hid]
 clear h hr hk ha hB1 hL1 hgl
 go_enter func161,ntmps161
 go_upto_region 1 with fail
 rw [<-hw1]
 clear hw1
 go_upto_region 3 with fail
 go_loopw [15,10] (I_ w1 H X l K o need) (λt _ _=>K.length - (intOf t).toNat)
 case atStart=>exact⟨0,3,rfl,rfl,by omega,by simp,HV1.o,ae.refl _ _⟩
 case round =>
  obtain⟨i,e,rfl,rfl,hi,hna,hv,hB⟩:=hrel
  have HB:=aa hB
  have HN:=aa hna
  have HV:=aa hv
  clear hna hv hB
  by_cases hlt:i<K.length
  ·have hd:decide ((i:Int)<(K.length:Int))=true:=dT (by omega)
   obtain⟨x,hx⟩:∃x,K[i]?=some x:=⟨_,gE hlt⟩
   obtain⟨b,q,rfl,hat⟩:=(HR.o _ HB.o).at_ (by omega)
   have HS:=aa (xP (g:=bV X l need) (o:=o) hx e)
   obtain⟨x0,x1,x2⟩:=hat i x hx
   have HXw:=aa (HW.o x (List.mem_of_getElem? hx))
   clear hx hat
   obtain⟨xo,xh,xl⟩:=x
   simp only at x0 x1 x2
   by_cases hc:xo=o
   ·have hq:(xo != o)=false:=by simp [hc]
    obtain⟨w2,hw2⟩:∃w2,w2=wr.alloc (Obj.cells #[.int .i64 xo,.int .u64 (xh:Int),.int .u64 (xl:Int)] 38):=⟨_,rfl⟩
    have hB2:Below wr.heap.size wr w2:=by rw [hw2];exact ab _ _
    have y0:w2.cell? ⟨wr.heap.size,0,none⟩=some (.int .i64 xo):=by rw [hw2];simp [go_sem]
    have y1:w2.cell? ⟨wr.heap.size,1,none⟩=some (.int .u64 (xh:Int)):=by rw [hw2];simp [go_sem]
    have y2:w2.cell? ⟨wr.heap.size,2,none⟩=some (.int .u64 (xl:Int)):=by rw [hw2];simp [go_sem]
    have hgl:H.g<wr.heap.size:=by obtain⟨_,⟨_,⟨_,_,_,hk⟩,_,_⟩,_⟩:=HV.o;exact hk.lt
    have HY:Hid (∀U,ae (λk=>k=H.g) w2 U->U.cell? ⟨wr.heap.size,0,none⟩=some (.int .i64 xo)/\U.cell? ⟨wr.heap.size,1,none⟩=some (.int .u64 (xh:Int))/\U.cell? ⟨wr.heap.size,2,none⟩=some (.int .u64 (xl:Int))):=λU hU =>
     have hne:¬wr.heap.size=H.g:=by omega
     ⟨aC hU y0 hne,aC hU y1 hne,aC hU y2 hne⟩
    have HG:=aa (om (HV.o.later hB2) (xo,xh,xl) need HXw.o)
    have HB2:=aa (HB.o.call hB2)
    have HS2:Hid (ct (bV X l need) o K 3=if bV X l need (xo,xh,xl)=0 then ((xo,xh,xl),0) else if bV X l need (xo,xh,xl)=4 then ct (bV X l need) o (K.drop (i+1)) 4 else ct (bV X l need) o (K.drop (i+1)) e):=by unfold Hid;rw [HN.o,HS.o,if_neg (by simpa using hc)]
    have HSw:Hid (¬w.heap.size=wr.heap.size):=by have h1:=HSz.o;have h2:=HB.o.size;unfold Hid;omega
    have hcx:=eA X l need (xo,xh,xl)
    clear hc hB2 hgl HS HN
    rcases hcx with ⟨_,h1⟩|⟨_,_,h1⟩|⟨_,_,h1⟩
    ·rw [h1] at HG HS2
     clear h1
     go_upto_region 5 with fail
     rw [<-hw2]
     clear hw2 x0 x1 x2
     go_wp2_with (first|(go_at_call 160;refine HG.o.mono ?_;rintro e3 w3 ⟨rfl,hv3,hb3⟩;have HV3:=aa hv3;have HB3:=aa (HB2.o.trans hb3);clear hv3 hb3))
     exact⟨⟨i+1,e,by go_num,rfl,by omega,HS2.o.trans (by simp),HV3.o,HB3.o⟩,by simp [intOf];omega⟩
    ·rw [h1] at HG HS2
     clear h1
     go_upto_region 5 with fail
     rw [<-hw2]
     clear hw2 x0 x1 x2
     go_wp2_with (first|(go_at_call 160;refine HG.o.mono ?_;rintro e3 w3 ⟨rfl,hv3,hb3⟩;have HV3:=aa hv3;have HB3:=aa (HB2.o.trans hb3);clear hv3 hb3))
     exact⟨⟨i+1,4,by go_num,rfl,by omega,HS2.o.trans (by simp),HV3.o,HB3.o⟩,by simp [intOf];omega⟩
    ·rw [h1] at HG HS2
     clear h1
     go_upto_region 5 with fail
     rw [<-hw2]
     clear hw2 x0 x1 x2
     go_upto_region 8 with (first|(go_at_call 160;refine HG.o.mono ?_;rintro e3 w3 ⟨rfl,hv3,hb3⟩;have HV3:=aa hv3;have HY3:=aa (HY.o _ hb3);have HB3:=aa (HB2.o.trans hb3);clear hv3 hb3))
     clear y0 y1 y2
     obtain⟨y0,y1,y2⟩:=HY3.o
     obtain⟨⟨r0,f0⟩,⟨r1,f1⟩,⟨r2,f2⟩⟩:=HL.o _ HB3.o
     have HE:Hid (ct (bV X l need) o K 3=((xo,xh,xl),0)):=HS2.o.trans (by simp)
     go_wp2
     exact bodyPost_ret (v:=.tuple #[ir (xo,xh,xl),.int .i64 0]) (by simp [results,results161,go_sem,r0,r1,r2]) rfl ⟨by rw [HE.o],HFin.o _ HV3.o xo xh xl,HEnd2.o _ HB3.o xo xh xl⟩
   ·have hq:(xo != o)=true:=by simp [hc]
    have HS2:Hid (ct (bV X l need) o (K.drop i) e=ct (bV X l need) o (K.drop (i+1)) e):=by unfold Hid;rw [HS.o,if_pos hc]
    clear hc
    go_wp2
    exact⟨⟨i+1,e,by go_num,rfl,by omega,HN.o.trans HS2.o,HV.o.later (ab _ _),HB.o.alloc _⟩,by simp [intOf];omega⟩
  ·have hd:decide ((i:Int)<(K.length:Int))=false:=dF (by omega)
   have HE:Hid (ct (bV X l need) o K 3=((0,0,0),e)):=HN.o.trans (zo (by omega) e)
   obtain⟨⟨r0,f0⟩,⟨r1,f1⟩,⟨r2,f2⟩⟩:=HL.o _ HB.o
   go_wp2
   exact bodyPost_ret (v:=.tuple #[ir (0,0,0),.int .i64 e]) (by simp [results,results161,go_sem,r0,r1,r2]) rfl ⟨by rw [HE.o],HFin.o _ HV.o 0 0 0,HEnd2.o _ HB.o 0 0 0⟩
end Go.Proofs.YtfmhdimaijimlaaGreatDoor.L
