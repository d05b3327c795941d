import Derived.Test.YtmhinfbkmjdgfaaGreatDoorZ12
set_option linter.unusedVariables false
set_option linter.unusedSimpArgs false
set_option maxRecDepth 100000
set_option maxHeartbeats 4000000
namespace Go.Proofs.YtmhinfbkmjdgfaaGreatDoor.R
open Go.RowKit
theorem zt (L:List Value)(c:Cl)(w0 w:World)(h:Cc w0 L c)(hb0:Below w0.heap.size w0 w)(hb:dQ c=true):Calls Tryz.prog 219 #[.agg L.toArray,ab 0] w λe w'=>∃a n c',e=.returned (.slice a n c')/\Lr w0 w' a n c' (iT c 0)/\Below w.heap.size w w':=by
 have hok:=dC hb (by obtain⟨d,g,e,hi⟩:=h.ex;exact hi.hi) (by obtain⟨d,g,e,hi⟩:=h.ex;exact hi.lo) 0
 obtain⟨d,g,rfl,hi⟩:=h.ex
 obtain⟨op,aE,size,obj,hI,lo,given,aD,off,n,data,index,aH⟩:=c
 obtain⟨da,dn,dc⟩:=d
 obtain⟨ga,gn,gc⟩:=g
 have Py:=ae hb0.size
 have X1:=Bx.new w (cC ⟨op,aE,size,obj,hI,lo,given,aD,off,n,data,index,aH⟩ ⟨da,dn,dc⟩ ⟨ga,gn,gc⟩) 44
 have hc:=X1.cell 2 rfl
 clear X1 hok hi hb h hb0;go_enter Tryz.func219,Tryz.ntmps219
 go_wp2_with (first|(go_at_call 283;refine (eU _ _).mono ?_;rintro e w2 ⟨a2,c2,rfl,hown,hb2⟩))
 go_ret;exact⟨_,_,_,rfl,.inr (hown.mono (by have:=Py.out;simp;omega)),aa (ag _ _) hb2⟩
theorem xx (L:List Value)(c:Cl)(w0 w:World)(h:Cc w0 L c)(hb0:Below w0.heap.size w0 w)(hb:dQ c=true):Calls Tryz.prog 219 #[.agg L.toArray,ab 1] w λe w'=>∃a n c',e=.returned (.slice a n c')/\Lr w0 w' a n c' (iT c 1)/\Below w.heap.size w w':=by
 have hok:=dC hb (by obtain⟨d,g,e,hi⟩:=h.ex;exact hi.hi) (by obtain⟨d,g,e,hi⟩:=h.ex;exact hi.lo) 1
 obtain⟨d,g,rfl,hi⟩:=h.ex
 obtain⟨op,aE,size,obj,hI,lo,given,aD,off,n,data,index,aH⟩:=c
 obtain⟨da,dn,dc⟩:=d
 obtain⟨ga,gn,gc⟩:=g
 have Py:=ae hb0.size
 have X1:=Bx.new w (cC ⟨op,aE,size,obj,hI,lo,given,aD,off,n,data,index,aH⟩ ⟨da,dn,dc⟩ ⟨ga,gn,gc⟩) 44
 have hB:=cU.1 (hok.2.1 rfl)
 simp only at hB;obtain⟨m,hm⟩:∃m:Nat,obj=(m:Int):=⟨obj.toNat,by omega⟩
 subst hm;have ew:IntKind.u64.wrap (m:Int)=(m:Int):=by rw [IntKind.wrap_u64];omega
 have HM:Hid (m<18446744073709551616):=by unfold Hid;omega
 have hc:=X1.cell 3 rfl
 clear X1 hok hi hb h hb0 hB;go_enter Tryz.func219,Tryz.ntmps219
 go_wp2_with (first|(go_at_call 284;refine (JS m HM.out _).mono ?_;rintro e w2 ⟨a2,c2,rfl,hown,hb2⟩))
 go_ret;exact⟨_,_,_,rfl,.inr (hown.mono (by have:=Py.out;simp;omega)),aa (ag _ _) hb2⟩
theorem AM (L:List Value)(c:Cl)(w0 w:World)(h:Cc w0 L c)(hb0:Below w0.heap.size w0 w)(hb:dQ c=true):Calls Tryz.prog 219 #[.agg L.toArray,ab 2] w λe w'=>∃a n c',e=.returned (.slice a n c')/\Lr w0 w' a n c' (iT c 2)/\Below w.heap.size w w':=by
 have hok:=dC hb (by obtain⟨d,g,e,hi⟩:=h.ex;exact hi.hi) (by obtain⟨d,g,e,hi⟩:=h.ex;exact hi.lo) 2
 obtain⟨d,g,rfl,hi⟩:=h.ex
 obtain⟨op,aE,size,obj,hI,lo,given,aD,off,n,data,index,aH⟩:=c
 obtain⟨da,dn,dc⟩:=d
 obtain⟨ga,gn,gc⟩:=g
 have Py:=ae hb0.size
 have X1:=Bx.new w (cC ⟨op,aE,size,obj,hI,lo,given,aD,off,n,data,index,aH⟩ ⟨da,dn,dc⟩ ⟨ga,gn,gc⟩) 44
 have hc:=X1.cell 4 rfl
 have hc5:=X1.cell 5 rfl
 have H2:=ae (hok.2.2.1 rfl)
 clear X1 hok hi hb h hb0;go_enter Tryz.func219,Tryz.ntmps219
 go_wp2_with (first|(go_at_call 263;refine (mH hI lo _ H2.out.1 H2.out.2).mono ?_;rintro e w2 ⟨a2,c2,rfl,hown,hb2⟩))
 go_ret;exact⟨_,_,_,rfl,.inr (hown.mono (by have:=Py.out;simp;omega)),aa (ag _ _) hb2⟩
theorem xK (L:List Value)(c:Cl)(w0 w:World)(h:Cc w0 L c)(hb0:Below w0.heap.size w0 w)(hb:dQ c=true):Calls Tryz.prog 219 #[.agg L.toArray,ab 3] w λe w'=>∃a n c',e=.returned (.slice a n c')/\Lr w0 w' a n c' (iT c 3)/\Below w.heap.size w w':=by
 have hok:=dC hb (by obtain⟨d,g,e,hi⟩:=h.ex;exact hi.hi) (by obtain⟨d,g,e,hi⟩:=h.ex;exact hi.lo) 3
 obtain⟨d,g,rfl,hi⟩:=h.ex
 obtain⟨op,aE,size,obj,hI,lo,given,aD,off,n,data,index,aH⟩:=c
 obtain⟨da,dn,dc⟩:=d
 obtain⟨ga,gn,gc⟩:=g
 have Py:=ae hb0.size
 have X1:=Bx.new w (cC ⟨op,aE,size,obj,hI,lo,given,aD,off,n,data,index,aH⟩ ⟨da,dn,dc⟩ ⟨ga,gn,gc⟩) 44
 have hc:=X1.cell 6 rfl
 clear X1 hok hi hb h hb0;go_enter Tryz.func219,Tryz.ntmps219
 go_wp2_with (first|(go_at_call 285;refine (qI _ _).mono ?_;rintro e w2 ⟨a2,c2,rfl,hown,hb2⟩))
 go_ret;exact⟨_,_,_,rfl,.inr (hown.mono (by have:=Py.out;simp;omega)),aa (ag _ _) hb2⟩
theorem zL (L:List Value)(c:Cl)(w0 w:World)(h:Cc w0 L c)(hb0:Below w0.heap.size w0 w)(hb:dQ c=true):Calls Tryz.prog 219 #[.agg L.toArray,ab 4] w λe w'=>∃a n c',e=.returned (.slice a n c')/\Lr w0 w' a n c' (iT c 4)/\Below w.heap.size w w':=by
 have hok:=dC hb (by obtain⟨d,g,e,hi⟩:=h.ex;exact hi.hi) (by obtain⟨d,g,e,hi⟩:=h.ex;exact hi.lo) 4
 obtain⟨d,g,rfl,hi⟩:=h.ex
 obtain⟨op,aE,size,obj,hI,lo,given,aD,off,n,data,index,aH⟩:=c
 obtain⟨da,dn,dc⟩:=d
 obtain⟨ga,gn,gc⟩:=g
 have Py:=ae hb0.size
 have X1:=Bx.new w (cC ⟨op,aE,size,obj,hI,lo,given,aD,off,n,data,index,aH⟩ ⟨da,dn,dc⟩ ⟨ga,gn,gc⟩) 44
 have hB:=cU.1 (hok.2.2.2.1 rfl)
 simp only at hB;obtain⟨m,hm⟩:∃m:Nat,aD=(m:Int):=⟨aD.toNat,by omega⟩
 subst hm;have ew:IntKind.u8.wrap (m:Int)=(m:Int):=by rw [IntKind.wrap_u8];omega
 have HM:Hid (m<256):=by unfold Hid;omega
 have hc:=X1.cell 7 rfl
 clear X1 hok hi hb h hb0 hB;go_enter Tryz.func219,Tryz.ntmps219
 go_wp2_with (first|(go_at_call 216;refine (p8 m HM.out _).mono ?_;rintro e w2 ⟨a2,c2,rfl,hown,hb2⟩))
 go_ret;exact⟨_,_,_,rfl,.inr (hown.mono (by have:=Py.out;simp;omega)),aa (ag _ _) hb2⟩
theorem As (L:List Value)(c:Cl)(w0 w:World)(h:Cc w0 L c)(hb0:Below w0.heap.size w0 w)(hb:dQ c=true):Calls Tryz.prog 219 #[.agg L.toArray,ab 5] w λe w'=>∃a n c',e=.returned (.slice a n c')/\Lr w0 w' a n c' (iT c 5)/\Below w.heap.size w w':=by
 have hok:=dC hb (by obtain⟨d,g,e,hi⟩:=h.ex;exact hi.hi) (by obtain⟨d,g,e,hi⟩:=h.ex;exact hi.lo) 5
 obtain⟨d,g,rfl,hi⟩:=h.ex
 obtain⟨op,aE,size,obj,hI,lo,given,aD,off,n,data,index,aH⟩:=c
 obtain⟨da,dn,dc⟩:=d
 obtain⟨ga,gn,gc⟩:=g
 have Py:=ae hb0.size
 have X1:=Bx.new w (cC ⟨op,aE,size,obj,hI,lo,given,aD,off,n,data,index,aH⟩ ⟨da,dn,dc⟩ ⟨ga,gn,gc⟩) 44
 have hc:=X1.cell 8 rfl
 clear X1 hok hi hb h hb0;go_enter Tryz.func219,Tryz.ntmps219
 go_wp2_with (first|(go_at_call 283;refine (eU _ _).mono ?_;rintro e w2 ⟨a2,c2,rfl,hown,hb2⟩))
 go_ret;exact⟨_,_,_,rfl,.inr (hown.mono (by have:=Py.out;simp;omega)),aa (ag _ _) hb2⟩
theorem xF (L:List Value)(c:Cl)(w0 w:World)(h:Cc w0 L c)(hb0:Below w0.heap.size w0 w)(hb:dQ c=true):Calls Tryz.prog 219 #[.agg L.toArray,ab 6] w λe w'=>∃a n c',e=.returned (.slice a n c')/\Lr w0 w' a n c' (iT c 6)/\Below w.heap.size w w':=by
 have hok:=dC hb (by obtain⟨d,g,e,hi⟩:=h.ex;exact hi.hi) (by obtain⟨d,g,e,hi⟩:=h.ex;exact hi.lo) 6
 obtain⟨d,g,rfl,hi⟩:=h.ex
 obtain⟨op,aE,size,obj,hI,lo,given,aD,off,n,data,index,aH⟩:=c
 obtain⟨da,dn,dc⟩:=d
 obtain⟨ga,gn,gc⟩:=g
 have Py:=ae hb0.size
 have X1:=Bx.new w (cC ⟨op,aE,size,obj,hI,lo,given,aD,off,n,data,index,aH⟩ ⟨da,dn,dc⟩ ⟨ga,gn,gc⟩) 44
 have hc:=X1.cell 9 rfl
 clear X1 hok hi hb h hb0;go_enter Tryz.func219,Tryz.ntmps219
 go_wp2_with (first|(go_at_call 283;refine (eU _ _).mono ?_;rintro e w2 ⟨a2,c2,rfl,hown,hb2⟩))
 go_ret;exact⟨_,_,_,rfl,.inr (hown.mono (by have:=Py.out;simp;omega)),aa (ag _ _) hb2⟩
theorem AQ (L:List Value)(c:Cl)(w0 w:World)(h:Cc w0 L c)(hb0:Below w0.heap.size w0 w)(hb:dQ c=true):Calls Tryz.prog 219 #[.agg L.toArray,ab 7] w λe w'=>∃a n c',e=.returned (.slice a n c')/\Lr w0 w' a n c' (iT c 7)/\Below w.heap.size w w':=by
 have hok:=dC hb (by obtain⟨d,g,e,hi⟩:=h.ex;exact hi.hi) (by obtain⟨d,g,e,hi⟩:=h.ex;exact hi.lo) 7
 obtain⟨d,g,rfl,hi⟩:=h.ex
 obtain⟨op,aE,size,obj,hI,lo,given,aD,off,n,data,index,aH⟩:=c
 obtain⟨da,dn,dc⟩:=d
 obtain⟨ga,gn,gc⟩:=g
 have Py:=ae hb0.size
 have X1:=Bx.new w (cC ⟨op,aE,size,obj,hI,lo,given,aD,off,n,data,index,aH⟩ ⟨da,dn,dc⟩ ⟨ga,gn,gc⟩) 44
 have hc:=X1.cell 10 rfl
 have HD:=ae hi.data
 clear X1 hok hi hb h hb0;go_enter Tryz.func219,Tryz.ntmps219
 go_wp2;go_ret;exact⟨_,_,_,rfl,.inl HD.out,ag _ _⟩
theorem zS (L:List Value)(c:Cl)(w0 w:World)(h:Cc w0 L c)(hb0:Below w0.heap.size w0 w)(hb:dQ c=true):Calls Tryz.prog 219 #[.agg L.toArray,ab 8] w λe w'=>∃a n c',e=.returned (.slice a n c')/\Lr w0 w' a n c' (iT c 8)/\Below w.heap.size w w':=by
 have hok:=dC hb (by obtain⟨d,g,e,hi⟩:=h.ex;exact hi.hi) (by obtain⟨d,g,e,hi⟩:=h.ex;exact hi.lo) 8
 obtain⟨d,g,rfl,hi⟩:=h.ex
 obtain⟨op,aE,size,obj,hI,lo,given,aD,off,n,data,index,aH⟩:=c
 obtain⟨da,dn,dc⟩:=d
 obtain⟨ga,gn,gc⟩:=g
 have Py:=ae hb0.size
 have X1:=Bx.new w (cC ⟨op,aE,size,obj,hI,lo,given,aD,off,n,data,index,aH⟩ ⟨da,dn,dc⟩ ⟨ga,gn,gc⟩) 44
 have hB:=cU.1 (hok.2.2.2.2.2.2.2.1 rfl)
 simp only at hB;obtain⟨m,hm⟩:∃m:Nat,index=(m:Int):=⟨index.toNat,by omega⟩
 subst hm;have ew:IntKind.u16.wrap (m:Int)=(m:Int):=by rw [IntKind.wrap_u16];omega
 have HM:Hid (m<65536):=by unfold Hid;omega
 have hc:=X1.cell 11 rfl
 clear X1 hok hi hb h hb0 hB;go_enter Tryz.func219,Tryz.ntmps219
 go_wp2_with (first|(go_at_call 217;refine (FT m HM.out _).mono ?_;rintro e w2 ⟨a2,c2,rfl,hown,hb2⟩))
 go_ret;exact⟨_,_,_,rfl,.inr (hown.mono (by have:=Py.out;simp;omega)),aa (ag _ _) hb2⟩
theorem zb (L:List Value)(c:Cl)(w0 w:World)(h:Cc w0 L c)(hb0:Below w0.heap.size w0 w)(hb:dQ c=true):Calls Tryz.prog 219 #[.agg L.toArray,ab 9] w λe w'=>∃a n c',e=.returned (.slice a n c')/\Lr w0 w' a n c' (iT c 9)/\Below w.heap.size w w':=by
 have hok:=dC hb (by obtain⟨d,g,e,hi⟩:=h.ex;exact hi.hi) (by obtain⟨d,g,e,hi⟩:=h.ex;exact hi.lo) 9
 obtain⟨d,g,rfl,hi⟩:=h.ex
 obtain⟨op,aE,size,obj,hI,lo,given,aD,off,n,data,index,aH⟩:=c
 obtain⟨da,dn,dc⟩:=d
 obtain⟨ga,gn,gc⟩:=g
 have Py:=ae hb0.size
 have X1:=Bx.new w (cC ⟨op,aE,size,obj,hI,lo,given,aD,off,n,data,index,aH⟩ ⟨da,dn,dc⟩ ⟨ga,gn,gc⟩) 44
 have hc:=X1.cell 12 rfl
 have H9:=ae (hok.2.2.2.2.2.2.2.2 rfl)
 have HR:Hid (∀o,RI (w.alloc o) ga gn gc aH):=λo=>(hi.aH.later hb0).later (ag _ _)
 clear X1 hok hi hb h hb0;go_enter Tryz.func219,Tryz.ntmps219
 go_wp2_with (first|(go_at_call 286;refine (oS ga gn gc aH _ (HR.out _) H9.out).mono ?_;rintro e w2 ⟨a2,n2,c2,rfl,hown,hb2⟩))
 go_ret;exact⟨_,_,_,rfl,.inr (hown.mono (by have:=Py.out;simp;omega)),aa (ag _ _) hb2⟩
theorem rj (p:Nat)(hp:p<10)(L:List Value)(c:Cl)(w0 w:World)(h:Cc w0 L c)(hb0:Below w0.heap.size w0 w)(hb:dQ c=true):Calls Tryz.prog 219 #[.agg L.toArray,ab (p:Int)] w λe w'=>∃a n c',e=.returned (.slice a n c')/\Lr w0 w' a n c' (iT c p)/\Below w.heap.size w w':=by
 rcases (by omega:p=0\/p=1\/p=2\/p=3\/p=4\/p=5\/p=6\/p=7\/p=8\/p=9) with rfl|rfl|rfl|rfl|rfl|rfl|rfl|rfl|rfl|rfl
 ·exact zt L c w0 w h hb0 hb
 ·exact xx L c w0 w h hb0 hb
 ·exact AM L c w0 w h hb0 hb
 ·exact xK L c w0 w h hb0 hb
 ·exact zL L c w0 w h hb0 hb
 ·exact As L c w0 w h hb0 hb
 ·exact xF L c w0 w h hb0 hb
 ·exact AQ L c w0 w h hb0 hb
 ·exact zS L c w0 w h hb0 hb
 ·exact zb L c w0 w h hb0 hb
def D5 (w:World)(L:List Value)(c:Cl)(ps:List Nat)(pa:Option Addr)(n:Nat)(l t:Value)(w':World):Prop :=
 ∃(i:Nat) (a:Option Addr) (cp:Nat) (rs:List R4),i<=n/\t=ab (i:Int)/\l=.slice a (2+i) cp/\OR w w' a (2+i) cp rs/\aV rs=bj c.op.toNat 1++bj c.aE.toNat 2++dO c (ps.take i)/\Bx w' w.heap.size L/\RP w' (w.heap.size+1) pa n ps/\Below w.heap.size w w'/\∀k,aI a k->w.heap.size<k/\¬aI pa k
theorem RP.E4 {S:Nat->Prop}{W w1:World}{base:Nat}{a:Option Addr}{n:Nat}{L:List Nat}(hb:aj S W w1)(h:RP W base a n L)(hS:∀k,aI a k->¬S k):RP w1 base a n L :=
 ⟨h.len,λj hj=>by
  obtain⟨b,hb1,hb2,hc⟩:=h.cells j hj
  exact⟨b,hb1,hb2,by rw [World.cell?_of_block (w:=W) (hb.block b (World.block_lt_of_cell? _ _ hc) (hS b ⟨_,hb1,rfl⟩))];exact hc⟩⟩
theorem zh {c:Cl}(hb:dQ c=true)(p:Nat):(iT c p).length<=1025:=by
 simp only [dQ,Bool.and_eq_true,decide_eq_true_eq,ux] at hb;unfold iT;repeat' split
 all_goals (try simp only [aW,List.length_append,nZ,List.length_nil])
 all_goals omega
theorem ra {c:Cl}(hb:dQ c=true):∀ps:List Nat,(dO c ps).length<=1025*ps.length
 | []=>by simp [dO]
 | p::ps=>by
  have:=zh hb p
  have:=ra hb ps
  simp only [dO,List.length_append,List.length_cons];omega
theorem rp (L:List Value)(c:Cl)(w:World)(h:Cc w L c)(hf:fm c=true) :
  Calls Tryz.prog 133 #[.agg L.toArray] w λe w'=>∃a n c',e=.returned (.slice a n c')/\Own w' w.heap.size a n c' (ly c)/\Below w.heap.size w w':=by
 have hf0:=hf
 simp only [fm,Bool.and_eq_true] at hf;obtain⟨⟨⟨hop,hin⟩,_⟩,_⟩:=hf
 have hop:=cU.1 hop
 have hby:0<=c.aE/\c.aE<=65535:=by
  have:=hin
  simp only [dQ,Bool.and_eq_true] at this;exact cU.1 this.1.1.1.1.1.1.1.1
 obtain⟨o,ho⟩:∃o:Nat,c.op=(o:Int):=⟨c.op.toNat,by omega⟩
 obtain⟨b,hbb⟩:∃b:Nat,c.aE=(b:Int):=⟨c.aE.toNat,by omega⟩
 have eo:IntKind.u8.wrap (o:Int)=(o:Int):=by rw [IntKind.wrap_u8];omega
 have eb:IntKind.u16.wrap (b:Int)=(b:Int):=by rw [IntKind.wrap_u16];omega
 have V6:Hid (o<256/\b<65536):=⟨by omega,by omega⟩
 have Ug:Hid (c.op.toNat=o/\c.aE.toNat=b/\c.op=(o:Int)):=⟨by omega,by omega,ho⟩
 have hl0:L[0]?=some (ab (o:Int)):=by rw [<-ho];exact h.op
 have hl1:L[1]?=some (ab (b:Int)):=by rw [<-hbb];obtain⟨d,g,rfl,hi⟩:=h.ex;rfl
 have X0:=Bx.new w L 44
 have HX:Hid (Bx (w.alloc (Obj.cells L.toArray 44)).drew w.heap.size L):=X0.later (Below.refl _ _).drew
 have Rc:Hid (∀W,Bx W w.heap.size L->W.cell? ⟨w.heap.size,0,none⟩=some (ab (o:Int))/\W.cell? ⟨w.heap.size,1,none⟩=some (ab (b:Int))):=λW hW=>⟨hW.cell 0 hl0,hW.cell 1 hl1⟩
 have OX:Hid (Below w.heap.size w (w.alloc (Obj.cells L.toArray 44)).drew):=(ag _ _).drew
 have S0:=Rc.out _ HX.out
 have Sp:=ae hin
 have HH:=ae h
 clear X0 hl0 hl1 h hin hop hby ho hbb;go_enter Tryz.func133,Tryz.ntmps133
 go_upto_region 1 with fail
 go_region_held3 (λw'=>(w'.cell? ⟨w.heap.size,0,none⟩=some (ab (o:Int))/\w'.cell? ⟨w.heap.size,1,none⟩=some (ab (b:Int)))) (first|exact S2|exact S1|exact S0|exact Rc.out _ (OZ.out.later (ag _ _))) (first|(go_at_call 217;refine (FT b V6.out.2 _).mono ?_;rintro e w2 ⟨a2,c2,rfl,hown2,hb2⟩;have O0:=ae (And.intro (hown2.mono OI.out.size) (Ps.out.later hb2));have OH:=ae (aa OI.out hb2);have OZ:=ae (OL.out.later hb2);have S2:=Rc.out _ OZ.out;clear hown2 hb2)|(go_at_call 216;refine (p8 o V6.out.1 _).mono ?_;rintro e w1 ⟨a1,c1,rfl,hown1,hb1⟩;have Ps:=ae (hown1.mono OX.out.size);have OI:=ae (aa OX.out hb1);have OL:=ae (HX.out.later hb1);have S1:=Rc.out _ OL.out;clear hown1 hb1))
 have Pw:Hid (Bx (w2.alloc (Obj.cells #[.slice a1 1 c1,.slice a2 2 c2] 38)) w.heap.size L):=OZ.out.later (ag _ _)
 have OJ:Hid (Below w.heap.size w (w2.alloc (Obj.cells #[.slice a1 1 c1,.slice a2 2 c2] 38))):=aa OH.out (ag _ _)
 have Vi:Hid (OR w (w2.alloc (Obj.cells #[.slice a1 1 c1,.slice a2 2 c2] 38)) (some ⟨w2.heap.size,0,none⟩) 2 2 [(a1,1,c1,bj o 1),(a2,2,c2,bj b 2)]):=OR.two (.inr O0.out.2) (.inr O0.out.1) OH.out
 have Qo:Hid (w.heap.size+1<=(w2.alloc (Obj.cells #[.slice a1 1 c1,.slice a2 2 c2] 38)).heap.size):=by unfold Hid;have:=OH.out.size;simp;omega
 have S3:=(Rc.out _ Pw.out).1
 have U2:=ae (World.block_lt_of_cell? _ _ S2.1)
 have T3:Hid (w2.heap.size<(w2.alloc (Obj.cells #[.slice a1 1 c1,.slice a2 2 c2] 38)).heap.size):=by unfold Hid;simp
 clear S0 S1 S2 Ps OI OL O0 OZ HX eo eb Rc OX;rename_i hHeld
 clear hHeld;have OW:Hid (w.heap.size<w2.heap.size):=by unfold Hid;exact U2.out
 obtain⟨w3,hw3⟩:∃w3,w3=w2.alloc (Obj.cells #[.slice a1 1 c1,.slice a2 2 c2] 38):=⟨_,rfl⟩
 rw [<-hw3] at Pw OJ Vi Qo T3 S3 ⊢
 clear hw3 OH;go_upto_region 3 with (first|(go_at_call 218;refine (jT (o:Int) _).mono ?_;rintro e w4 ⟨pa,n,cp,rfl,hrp,hn5,hb4,hpb4⟩))
 have WR:=ae hpb4
 clear hpb4;have R0:Hid (D5 w L c (bT c.op) pa n (.slice (some ⟨w2.heap.size,0,none⟩) 2 2) (ab 0) w4):=by
  refine⟨0,_,2,_,by omega,rfl,rfl,Vi.out.later hb4,?_,Pw.out.later hb4,?_,aa OJ.out hb4,λk ⟨x,hx,hk⟩=>?_⟩
  rotate_right
  ·cases hx
   simp only at hk;subst hk;refine⟨by have:=OW.out;omega,λ⟨y,hy,hk⟩=>?_⟩
   have:=WR.out _ ⟨y,hy,rfl⟩
   have:=T3.out
   omega
  ·rw [Ug.out.1,Ug.out.2.1];simp [aV,dO]
  ·rw [Ug.out.2.2]
   exact⟨hrp.len,λj hj=>by obtain⟨x,h1,h2,h3⟩:=hrp.cells j hj;exact⟨x,h1,by have:=Qo.out;omega,h3⟩⟩
 have HN:Hid ((bT c.op).length=n):=by unfold Hid;rw [Ug.out.2.2];exact hrp.len
 clear hrp hb4 Vi Pw OJ Qo S3 WR;go_loopw [3,19] (D5 w L c (bT c.op) pa n) (λ_ t _=>n - (intOf t).toNat)
 case atStart=>exact R0.out
 case round =>
  clear R0;obtain⟨i,x,cx,rs,hi,rfl,rfl,hor,hcat,hbx,hrp,hbw,hap⟩:=hrel
  have ei:IntKind.i64.wrap ((i:Int)+1)=(i:Int)+1:=by rw [IntKind.wrap_i64];omega
  by_cases hlt:i<n
  ·have hdi:decide ((i:Int)<(n:Int))=true:=by simp;omega
   have hiP:i<(bT c.op).length:=by have:=HN.out;omega
   obtain⟨pb,rfl,hpb,hpc⟩:=hrp.cells i hiP
   have HT:Hid _:=List.take_succ_eq_append_getElem hiP
   have hp10:Hid ((bT c.op)[i]<10):=(qy c.op).1 _ (List.getElem_mem hiP)
   generalize (bT c.op)[i]=p at hpc HT hp10
   have O4:=ae (mD hbx.range HH.out.len)
   have SL:=ae hor
   have RW:=ae hcat
   have Wo:=ae hbx
   have Vh:=ae hrp
   have O8:=ae hbw
   have Tj:=ae hap
   have XB:=ae hpc
   clear hor hcat hbx hrp hbw hap;go_upto_region 5 with fail
   go_wp2_with (first|((with_reducible refine aJ O4.out ?_ ?_);(· rfl))|(go_at_call 219;refine (rj p hp10.out L c w _ HH.out O8.out Sp.out).mono ?_;rintro e w5 ⟨a5,n5,c5,rfl,hlr,hb5⟩;obtain⟨a6,c6,w6,hrun,hor6,hbw6,hbut6,hon6⟩:=lE (SL.out.later hb5) hlr (aa O8.out hb5) (by omega);have ON:=ae hrun;have U7:=ae hor6;have O7:=ae hbw6;have TF:=ae ((Wo.out.later hb5).but hbut6 (λhk=>by have:=(Tj.out _ hk).1;omega));have Vn:=ae ((Vh.out.later hb5).E4 hbut6 (λk hk hk2=>(Tj.out k hk2).2 hk));have VL:=ae (λk hk=>(hon6 k hk).elim (λh=>Tj.out k h) (λh=>(⟨by have:=Wo.out.lt (by rw [HH.out.len];omega);have:=hb5.size;omega,λhk2=>by obtain⟨y,hy1,hy2⟩:=hk2;cases hy1;have q1:pb<_:=World.block_lt_of_cell? _ _ XB.out;have q2:=hb5.size;have q3:pb=k:=hy2;omega⟩:w.heap.size<k/\¬aI (some ⟨pb,0,none⟩) k)));clear hrun hor6 hbw6 hbut6 hlr hb5 hon6)|(at_builtin;refine aw rfl _ _ 338 rfl _ _ rfl rfl _ w6 ON.out ?_))
   go_roundw
   case rel=>exact⟨i+1,a6,c6,_,by omega,by go_num,rfl,U7.out,by rw [cF,RW.out,HT.out,qB];simp [aV,dO],TF.out,Vn.out,O7.out,VL.out⟩
   case measure=>simp [intOf];omega
  ·obtain rfl:i=n:=by omega
   have HX:Hid (aV rs=ly c):=by
    unfold Hid ly;rw [hcat,List.take_of_length_le (by have:=HN.out;omega)]
   have hle:(aV rs).length<=140737488355328:=by
    rw [HX.out];unfold ly;have:=ra Sp.out (bT c.op)
    have:=HN.out
    simp only [List.length_append,aW];omega
   have HJ:=ae (kC hor hbw (by omega) (by omega) hle)
   have O8:=ae hbw
   clear hor hbw hcat hle hbx hrp hap;go_wp2_with (first|(go_at_call 220;refine HJ.out.mono ?_;rintro e w2 ⟨a2,n2,c2,rfl,hown2,hb2⟩))
   go_ret;exact⟨_,_,_,rfl,by rw [<-HX.out];exact hown2.mono O8.out.size,aa O8.out hb2⟩
theorem qf (L:List Value)(c:Cl)(w:World)(h:Cc w L c)(hf:fm c=true) :
  Calls Tryz.prog 60 #[.agg L.toArray] w λe w'=>∃a n c',e=.returned (.tuple #[.slice a n c',ab 0])/\Own w' w.heap.size a n c' (ly c)/\Below w.heap.size w w':=by
 have X1:Hid (Bx (w.alloc (Obj.cells L.toArray 44)) w.heap.size L):=Bx.new w L 44
 have Pk:=ae (mD X1.out.range h.len)
 have HL:=ae h.len
 have HC:Hid (Cc (w.alloc (Obj.cells L.toArray 44)) L c):=h.later (ag _ _)
 clear h;go_enter Tryz.func60,Tryz.ntmps60
 go_wp2_with (first|((with_reducible refine aJ Pv.out ?_ ?_);(· rfl))|((with_reducible refine aJ Pk.out ?_ ?_);(· rfl))|(go_at_call 132;refine (kU L c _ HC.out).mono ?_;rintro e w2 ⟨rfl,hb2⟩;rw [hf];have Pv:=ae (mD (X1.out.later hb2).range HL.out);have Pj:=ae (HC.out.later hb2);have OH:=ae hb2;clear hb2)|(go_at_call 133;refine (rp L c _ Pj.out hf).mono ?_;rintro e w3 ⟨a,n,c',rfl,hown,hb3⟩))
 exact bodyPost_ret (v:=.tuple #[.slice a n c',ab 0]) (by simp [results,Tryz.results60,go_sem]) rfl ⟨_,_,_,rfl,hown.mono (by have:=OH.out.size;simp at this;omega),aa (aa (ag _ _) OH.out) hb3⟩
theorem uX (L:List Value)(c:Cl)(w:World)(h:Cc w L c)(hf:fm c=false) :
  Calls Tryz.prog 60 #[.agg L.toArray] w λe w'=>e=.returned (.tuple #[.slice none 0 0,ab 1])/\Below w.heap.size w w':=by
 have X1:Hid (Bx (w.alloc (Obj.cells L.toArray 44)) w.heap.size L):=Bx.new w L 44
 have Pk:=ae (mD X1.out.range h.len)
 have HC:Hid (Cc (w.alloc (Obj.cells L.toArray 44)) L c):=h.later (ag _ _)
 clear h;go_enter Tryz.func60,Tryz.ntmps60
 go_wp2_with (first|((with_reducible refine aJ Pk.out ?_ ?_);(· rfl))|(go_at_call 132;refine (kU L c _ HC.out).mono ?_;rintro e w2 ⟨rfl,hb2⟩;rw [hf];have OH:=ae hb2;clear hb2))
 exact bodyPost_ret (v:=.tuple #[.slice none 0 0,ab 1]) (by simp [results,Tryz.results60,go_sem]) rfl ⟨rfl,aa (ag _ _) OH.out⟩
end Go.Proofs.YtmhinfbkmjdgfaaGreatDoor.R
namespace Go.Proofs.YtmhinfbkmjdgfaaGreatDoor.B
open Go.RowKit
variable {L:List Nat}{xs:List Value}{b base cap n size:Nat}{S T:Nat->Prop}{a a':Option Addr}{e:TypeId}{v:Value}{W c w w' w1:World}
theorem aQ {k:IntKind}{a b:Int}(h:a=b):Ending.returned (.int k a)=.returned (.int k b):=by rw [h]
theorem aA {a b:Bool}(h:a=b):Ending.returned (.bool a)=.returned (.bool b):=by rw [h]
theorem ag (w:World)(o:Obj):Below w.heap.size w (w.alloc o):=(Below.refl _ _).alloc (Nat.le_refl _) _
theorem aB (w:World)(o p:Obj):Below w.heap.size w ((w.alloc o).alloc p):=(ag _ _).alloc (by simp) _
theorem aa (h:Below w.heap.size w W)(hb:Below W.heap.size W w1):Below w.heap.size w w1:=h.trans (hb.mono h.size)
theorem aY (g i:Nat):(⟨g,0,none⟩:Addr).add i=⟨g,i,none⟩:=by unfold Addr.add;split<;>simp_all
theorem bq (g o i:Nat):(⟨g,o,none⟩:Addr).add i=⟨g,o+i,none⟩:=by unfold Addr.add;split<;>simp_all
theorem gX:(Tryz.prog.info? 5).map (λi=>(i.zero,i.size,i.bytes))=some (some (.int .u8 0),1,1):=by kernel_rfl
def aN (l:List Nat):List Value:=l.map λ(n:Nat)=>Value.int .u8 (n:Int)
theorem ao (l:List Nat):(aN l).length=l.length:=by simp [aN]
theorem ey (l m:List Nat):aN (l++m)=aN l++aN m:=by simp [aN]
theorem dV (l:List Nat)(i:Nat)(h:i<l.length):(aN l)[i]?=some (.int .u8 ((l[i]:Nat):Int)):=by simp [aN,h]
theorem bJ (l:List Nat):∀u∈aN l,u.oneCell'=true:=by
 intro u hu;simp only [aN,List.mem_map] at hu;obtain⟨n,_,rfl⟩:=hu
 rfl
structure Row (w:World)(a:Option Addr)(n cap:Nat)(L:List Nat):Prop where
 len:L.length=n
 cap_:n<=cap
 none_:a=none->n=0/\cap=0
 cells:∀x,a=some x->∀j u,(aN L)[j]?=some u->w.cell? (x.add j)=some u
 small:∀x∈L,x<256
theorem Row.later (hb:Below W.heap.size W w1)(h:Row W a n cap L):Row w1 a n cap L :=
 ⟨h.len,h.cap_,h.none_,λx hx j u hu=>cell_later hb (h.cells x hx j u hu),h.small⟩
theorem bh (w:World):Row w none 0 0 []:=⟨rfl,Nat.le_refl _,λ_=>⟨rfl,rfl⟩,λ_ h=>(by cases h),λ_ h=>(by cases h)⟩
theorem Row.plain (h:Row w a n cap L)(hl:0<n):∃b o,a=some ⟨b,o,none⟩/\∀i (hi:i<L.length),w.cell? ⟨b,o+i,none⟩=some (.int .u8 ((L[i]:Nat):Int)):=by
 cases a with
 | none=>have:=h.none_ rfl;omega
 | some x =>
  obtain⟨b,o,spot⟩:=x
  have hlen:=h.len
  have h0:=h.cells _ rfl 0 _ (dV L 0 (by omega))
  have hs:spot=none:=by simpa [Addr.add] using World.cell?_spot h0
  subst hs;refine⟨b,o,rfl,λi hi=>?_⟩
  have:=h.cells _ rfl i _ (dV L i hi)
  rw [bq] at this;exact this
theorem Row.at {o:Nat}(hl:L.length=n)(hc:n<=cap)(hs:∀x∈L,x<256)(h:∀i (hi:i<L.length),w.cell? ⟨b,o+i,none⟩=some (.int .u8 ((L[i]:Nat):Int))):Row w (some ⟨b,o,none⟩) n cap L:=by
 refine⟨hl,hc,λh=>(by cases h),λx hx j u hu=>?_,hs⟩
 cases hx
 rw [bq];have hj:j<L.length:=by have:=(List.getElem?_eq_some_iff.1 hu).1;rwa [ao] at this
 rw [dV L j hj] at hu;cases hu
 exact h j hj
structure Own (w:World)(base:Nat)(a:Option Addr)(n cap:Nat)(L:List Nat):Prop where
 row:w.ownsRow base 5 1 (.slice a n cap) n (aN L)
 small:∀x∈L,x<256
theorem Own.len (h:Own w base a n cap L):L.length=n:=by
 have:=h.row.1
 rw [ao,Nat.mul_one] at this;exact this
theorem Own.read (h:Own w base a n cap L):Row w a n cap L:=by
 refine⟨h.len,?_,?_,?_,h.small⟩
 ·rcases h.row.2 with ⟨h,hn⟩|⟨g,c,cur,hv,_,_,hc,_⟩
  ·omega
  ·simp only [Value.slice.injEq] at hv;omega
 ·intro ha
  rcases h.row.2 with ⟨h,hn⟩|⟨g,c,cur,hv,_,_,hc,_⟩
  ·simp only [Value.slice.injEq] at h;omega
  ·subst ha;simp at hv
 ·intro x hx j u hu
  rcases h.row.2 with ⟨h,hn⟩|⟨g,c,cur,hv,_,_,hc,_⟩
  ·subst hx;simp at h
  ·subst hx
   simp only [Value.slice.injEq,Option.some.injEq] at hv;obtain⟨rfl,_,rfl⟩:=hv
   exact h.row.cells (g:=g) rfl j u hu
theorem gN (hb:Below W.heap.size W w1)(h:W.ownsRow base e size v n xs):w1.ownsRow base e size v n xs:=by
 refine⟨h.1,?_⟩
 rcases h.2 with h|⟨g,cap,cur,hv,hg,hh,r⟩
 ·exact .inl h
 ·have hlt:g<W.heap.size:=by
   rcases Nat.lt_or_ge g W.heap.size with h1|h1
   ·exact h1
   ·rw [Array.getElem?_eq_none h1] at hh;cases hh
  exact .inr ⟨g,cap,cur,hv,hg,by rw [hb.block g hlt];exact hh,r⟩
theorem fc {b':Nat}(h:w.ownsRow b e size v n xs)(hb:b'<=b):w.ownsRow b' e size v n xs:=by
 refine⟨h.1,?_⟩
 rcases h.2 with h|⟨g,cap,cur,hv,hg,r⟩
 ·exact .inl h
 ·exact .inr ⟨g,cap,cur,hv,Nat.le_trans hb hg,r⟩
theorem bD (h:w.ownsRow base e size v n xs):∀k,v.ownBlock=some k->base<=k:=by
 intro k hk;rcases h.2 with ⟨rfl,_⟩|⟨g,cap,cur,rfl,hg,_⟩
 ·cases hk
 ·simp [Value.ownBlock] at hk;omega
theorem Own.later (hb:Below W.heap.size W w1)(h:Own W base a n cap L):Own w1 base a n cap L:=⟨gN hb h.row,h.small⟩
theorem Own.alloc (h:Own w base a n cap L)(o:Obj):Own (w.alloc o) base a n cap L:=h.later (ag _ _)
theorem Own.mono (h:Own w base a n cap L)(hb:b<=base):Own w b a n cap L:=⟨fc h.row hb,h.small⟩
theorem Own.nil (w:World)(base:Nat):Own w base .none 0 0 []:=⟨⟨rfl,.inl ⟨rfl,rfl⟩⟩,λ_ h=>(by cases h)⟩
structure aj (S:Nat->Prop)(w w':World):Prop where
 os:w'.os=w.os
 tape:w'.tape=w.tape
 output:w'.output=w.output
 size:w.heap.size<=w'.heap.size
 block:∀k,k<w.heap.size->¬S k->w'.heap[k]?=w.heap[k]?
theorem aj.refl (S:Nat->Prop)(w:World):aj S w w:=⟨rfl,rfl,rfl,Nat.le_refl _,λ_ _ _=>rfl⟩
theorem aj.trans {a b:World}(h:aj S a b)(k:aj S b c):aj S a c :=
 ⟨k.os.trans h.os,k.tape.trans h.tape,k.output.trans h.output,Nat.le_trans h.size k.size,λi hi hn=>(k.block i (Nat.lt_of_lt_of_le hi h.size) hn).trans (h.block i hi hn)⟩
theorem aj.of (h:Below w.heap.size w w'):aj S w w':=⟨h.os,h.tape,h.output,h.size,λk hk _=>h.block k hk⟩
theorem aj.below (h:Below w.heap.size w W)(hb:aj S W w')(hS:∀k,S k->w.heap.size<=k):Below w.heap.size w w' :=
 ⟨hb.os.trans h.os,hb.tape.trans h.tape,hb.output.trans h.output,Nat.le_trans h.size hb.size,λk hk=>(hb.block k (Nat.lt_of_lt_of_le hk h.size) (λhs=>by have:=hS k hs;omega)).trans (h.block k hk)⟩
theorem aj.mono (h:aj S w w')(hS:∀k,S k->T k):aj T w w':=⟨h.os,h.tape,h.output,h.size,λk hk hn=>h.block k hk (λhs=>hn (hS k hs))⟩
theorem aj.setCell {a:World}(h:aj S a w){p:Addr}(hp:S p.block)(u:Value):aj S a (w.setCell p u) :=
 h.trans ⟨rfl,rfl,rfl,by simp [World.setCell],λk hk hn=>Below.heap_setCell _ _ _ _ (λe=>hn (e ▸ hp))⟩
def aI (a:Option Addr)(k:Nat):Prop:=∃x,a=some x/\x.block=k
theorem aI.of {k:Nat}:(Value.slice a n cap).ownBlock=some k↔aI a k:=by
 cases a with
 | none=>simp [Value.ownBlock,aI]
 | some x=>simp [Value.ownBlock,aI]
structure Gr (a a':Option Addr)(w w':World):Prop where
 but:aj (aI a) w w'
 on:∀k,aI a' k->aI a k\/w.heap.size<=k
theorem Gr.refl (a:Option Addr)(w:World):Gr a a w w:=⟨aj.refl _ _,λ_ h=>.inl h⟩
theorem aj.comp {a b:World}(h:aj S a b)(k:aj T b c)(hT:∀i,T i->S i\/a.heap.size<=i):aj S a c :=
 ⟨k.os.trans h.os,k.tape.trans h.tape,k.output.trans h.output,Nat.le_trans h.size k.size,λi hi hn=>(k.block i (Nat.lt_of_lt_of_le hi h.size) (λht=>by rcases hT i ht with h1|h1;exact hn h1;omega)).trans (h.block i hi hn)⟩
theorem Gr.trans {a'':Option Addr}{w'':World}(h:Gr a a' w w')(k:Gr a' a'' w' w''):Gr a a'' w w'' :=
 ⟨h.but.comp k.but h.on,λi hi=>by
  rcases k.on i hi with h1|h1
  ·exact h.on i h1
  ·exact .inr (Nat.le_trans h.but.size h1)⟩
theorem Gr.pre (h:Below w.heap.size w W)(k:Gr a a' W w'):Gr a a' w w' :=
 ⟨(aj.of h).trans k.but,λi hi=>by
  rcases k.on i hi with h1|h1
  ·exact .inl h1
  ·exact .inr (Nat.le_trans h.size h1)⟩
theorem Own.dB (h:Own w base a n cap L):∀k,aI a k->base<=k:=λk hk=>bD h.row k (aI.of.2 hk)
theorem Gr.below (h:Own w base a n cap L)(g:Gr a a' w w')(hb:base<=w.heap.size):Below base w w' :=
 ⟨g.but.os,g.but.tape,g.but.output,g.but.size,λk hk=>g.but.block k (by omega) (λhs=>by have:=h.dB k hs;omega)⟩
theorem dv {b:Option Addr}{m c:Nat}{M:List Nat}(h:Own w base a n cap L)(k:Row w b m c M)(hb:base<=w.heap.size)(hr:n+m<=140737488355328) :
  ∃a' cap' w',(Builtin.append_ #[38,38] 38 #[.slice a n cap,.slice b m c]).run Tryz.prog w=.ok (.slice a' (n+m) cap') w'/\Own w' base a' (n+m) cap' (L++M)/\Gr a a' w w':=by
 obtain⟨i,hi,hz0,hz1,hz2⟩:=info_parts gX
 have hsm:∀x∈L++M,x<256:=λx hx=>by
  rcases List.mem_append.1 hx with h1|h1
  ·exact h.small x h1
  ·exact k.small x h1
 cases b with
 | none =>
  obtain⟨rfl,rfl⟩:=k.none_ rfl
  have hM:M=[]:=List.eq_nil_of_length_eq_zero k.len
  subst hM;have hr:=run_append_owned_none (P:=Tryz.prog) (w:=w) base 38 38 5 i 1 Tryz.underlying38 hi _ n _ h.row
  exact⟨a,cap,w,hr,⟨by simpa using h.row,hsm⟩,Gr.refl _ _⟩
 | some x =>
  obtain⟨v',w',hr,h2,h3,_,h5⟩:=run_append_own_at (P:=Tryz.prog) w base 38 38 5 i _ 1 1 Tryz.underlying38 hi hz0 hz1 hz2 rfl (by decide) _ n _ h.row x m c (aN M) (by rw [ao,k.len,Nat.mul_one]) (k.cells x rfl) (bJ M) (by unfold maxLen;omega) (by omega) hb
  obtain⟨a',cap',rfl⟩:∃a' cap',v'=.slice a' (n+m) cap':=by
   rcases h2.2 with ⟨h,h'⟩|⟨g',cap',_,h,_⟩
   ·exact⟨.none,0,by rw [h,h']⟩
   ·exact⟨_,cap',h⟩
  refine⟨a',cap',w',hr,⟨by rw [ey];exact h2,hsm⟩,⟨h3.os,h3.tape,h3.output,h3.size,λj hj hn=>h3.block j hj (λe=>hn (aI.of.1 e.symm))⟩,λj hj=>?_⟩
  rcases h5 with h5|h5
  ·rw [aI.of.2 hj] at h5
   exact .inl (aI.of.1 h5.symm)
  ·rw [aI.of.2 hj] at h5
   right
   simp at h5
   omega
theorem aw {P:Program}{ops:Array Oper}{rest:List Oper}{o:Oper}{a:Act}{Q:Exit->Act->World->Prop}(hgd:o.guard=none)(s x:Operand)(t:TypeId)
  (ho:o.op=.call { callee:=.builtin .append,args:=#[s,x],argTypes:=#[t,t] }) (vs vx:Value) (hs:a.eval s=vs) (hx:a.eval x=vx) (v':Value) (w':World)
  (hr:(Builtin.append_ #[t,t] o.type #[vs,vx]).run P w=.ok v' w') (h:wpList P ops Q rest (a.put o.dst v') w'):wpList P ops Q (o::rest) a w:=by
 refine wpList_plain hgd λK hK=>?_
 unfold Oper.wp execOp;simp only [ho,resolve,invoke,builtin,Sem.run_bind,Sem.run_pure,Result.andThen_ok,List.map_toArray,List.map_cons,List.map_nil,hs,hx,hr];exact hK _ _ h
theorem Row.one (w:World)(b:Nat)(hb:b<256):Row (w.alloc (Obj.cells #[Value.int .u8 (b:Int)] 5)) (some ⟨w.heap.size,0,.none⟩) 1 1 [b] :=
 Row.at (L:=[b]) rfl (Nat.le_refl _) (λx hx=>by simp at hx;omega) (λi hi=>by
  have:i=0:=by simp at hi;omega
  subst this;simp [go_sem])
end Go.Proofs.YtmhinfbkmjdgfaaGreatDoor.B
namespace Go.Proofs.YtmhinfbkmjdgfaaGreatDoor.B
def bj (v k:Nat):List Nat:=(List.range k).map λi=>v / 256 ^ i%256
theorem cN (v:Nat):bj v 0=[]:=rfl
theorem cY (v k:Nat):bj v (k+1)=bj v k++[v / 256 ^ k%256]:=by simp [bj,List.range_succ]
theorem aW (v k:Nat):(bj v k).length=k:=by simp [bj]
theorem gM (v k:Nat):∀x∈bj v k,x<256:=by
 intro x hx;simp only [bj,List.mem_map] at hx;obtain⟨i,_,rfl⟩:=hx
 omega
def mP:List Nat->Nat
 | []=>0
 | b::r=>b+256*mP r
theorem qY (l m:List Nat):mP (l++m)=mP l+256 ^ l.length*mP m:=by
 induction l with
 | nil=>simp [mP]
 | cons b r ih =>
  simp only [List.cons_append,mP,ih,List.length_cons,Nat.pow_succ];rw [Nat.mul_add,<-Nat.mul_assoc,Nat.mul_comm 256 (256 ^ r.length),Nat.add_assoc]
theorem zH (b:Nat):mP [b]=b:=by simp [mP]
theorem rB (v k:Nat):mP (bj v k)=v%256 ^ k:=by
 induction k with
 | zero=>simp [cN,mP,Nat.mod_one]
 | succ k ih=>rw [cY,qY,ih,aW,zH,Nat.pow_succ,Nat.mod_mul]
end Go.Proofs.YtmhinfbkmjdgfaaGreatDoor.B
namespace Go.Proofs.YtmhinfbkmjdgfaaGreatDoor.B
open Go.RowKit
theorem iN (w:World):Calls Tryz.prog 282 #[] w λe w'=>e=.returned (ab 2)/\w'=w:=by
 go_enter Tryz.func282,Tryz.ntmps282
 go_wp2;go_loop [1,2] (λn r=>∃k:Nat,k<=2/\n=ab k/\r=ai ((65535 / 256 ^ k:Nat):Int)) (λn _=>2 - (intOf n).toNat)
 case atStart=>exact⟨0,by omega,rfl,rfl⟩
 case round =>
  obtain⟨k,hk,rfl,rfl⟩:=hrel
  rcases (by omega:k=0\/k=1\/k=2) with rfl|rfl|rfl
  ·go_wp2
   exact⟨⟨1,by omega,by go_num,by go_num⟩,by simp [intOf]⟩
  ·go_wp2
   exact⟨⟨2,by omega,by go_num,by go_num⟩,by simp [intOf]⟩
  ·go_wp2
   go_ret;exact⟨rfl,rfl⟩
theorem cW (n more:Nat)(hr:n+more<=140737488355328)(u:World):(Instr.makeSlice 38 (ab (n:Int)) (ab ((n:Int)+(more:Int)))).run Tryz.prog u =
  .ok (.slice (some ⟨u.heap.size,0,none⟩) n (n+more)) (u.alloc (.cells (madeCells #[.int .u8 0] (n+more)) 5)):=by
 obtain⟨i0,hi,hz0,hz1,hz2⟩:=info_parts gX
 have h:=run_make (P:=Tryz.prog) u 38 5 i0 (.int .u8 0) Tryz.underlying38 hi hz0 .i64 .i64 (n:Int) ((n:Int)+(more:Int)) (by omega) (by omega) (by rw [hz2];omega) (by omega)
 have e:((n:Int)+(more:Int)).toNat=n+more:=by omega
 rw [e] at h;simpa [hz1,Value.cells] using h
theorem lr (w:World)(a:Option Addr)(n cap more:Nat)(L:List Nat)(h:Row w a n cap L)(hr:n+more<=140737488355328) :
  ∃v' w',(Builtin.copy_ #[38,38] 3 #[.slice (some ⟨w.heap.size,0,none⟩) n (n+more),.slice a n cap]).run Tryz.prog (w.alloc (.cells (madeCells #[.int .u8 0] (n+more)) 5))=.ok v' w' /\
   Own w' w.heap.size (some ⟨w.heap.size,0,none⟩) n (n+more) L/\Below w.heap.size w w':=by
 have hh:=heap_alloc_new w (.cells (madeCells #[.int .u8 0] (n+more)) 5)
 have hsz:(madeCells #[Value.int .u8 0] (n+more)).size=n+more:=by simp [madeCells]
 have hbase:Below w.heap.size w (w.alloc (.cells (madeCells #[.int .u8 0] (n+more)) 5)):=ag _ _
 cases a with
 | none =>
  obtain⟨rfl,rfl⟩:=h.none_ rfl
  have hL:L=[]:=List.eq_nil_of_length_eq_zero h.len
  subst hL;refine⟨_,_,run_copy_nil (P:=Tryz.prog) _ 38 38 3 5 _ _ _ Tryz.underlying38 (by kernel_rfl),⟨⟨rfl,.inr ⟨_,_,_,rfl,Nat.le_refl _,hh,by omega,by unfold maxLen;omega,by rw [hsz,Nat.mul_one],by simp [aN]⟩⟩,h.small⟩,hbase⟩
 | some x =>
  have hl:(aN L).length=n:=by rw [ao,h.len]
  have hr:=run_copy_row (P:=Tryz.prog) (w.alloc (.cells (madeCells #[.int .u8 0] (n+more)) 5)) 38 38 3 5 w.heap.size 0 n (n+more) x n cap _ 5 (aN L) Tryz.underlying38 (by kernel_rfl) hh (by rw [hl];simp) (λj v hj=>cell_later (ag _ _) (h.cells x rfl j v hj)) (by rw [hl,hsz];omega) (bJ L)
  refine⟨_,_,hr,⟨⟨by rw [hl,Nat.mul_one],.inr ⟨_,_,_,rfl,Nat.le_refl _,setRow_heap _ _ _ _ _ _ hh,by omega,by unfold maxLen;omega,?_,?_⟩⟩,h.small⟩,?_⟩
  ·simp [hl,hsz]
  ·simp only [Nat.mul_one,List.take_zero,List.nil_append,Nat.zero_add]
   rw [List.take_left' hl]
  ·refine hbase.trans ⟨rfl,rfl,rfl,by simp,λk hk=>?_⟩
   exact setRow_other _ _ _ _ (by omega)
theorem de (a:Option Addr)(n cap:Nat)(more:Nat)(L:List Nat)(w:World)(h:Row w a n cap L)(hr:n+more<=140737488355328) :
  Calls Tryz.prog 279 #[.slice a n cap,ab (more:Int)] w λe w'=>∃g,e=.returned (.slice (some ⟨g,0,none⟩) n (n+more))/\Own w' w.heap.size (some ⟨g,0,none⟩) n (n+more) L/\Below w.heap.size w w':=by
 have hmk:=cW n more hr
 have ew:IntKind.i64.wrap ((n:Int)+(more:Int))=(n:Int)+(more:Int):=by rw [IntKind.wrap_i64];omega
 obtain⟨v',w2,hrun,hown,hb⟩:=lr w a n cap more L h hr
 clear h hr;go_enter Tryz.func279,Tryz.ntmps279
 go_wp2;go_ret;exact⟨_,rfl,hown,hb⟩
end Go.Proofs.YtmhinfbkmjdgfaaGreatDoor.B
namespace Go.Proofs.YtmhinfbkmjdgfaaGreatDoor.B
open Go.RowKit
theorem ku (w:World):Calls Tryz.prog 334 #[] w λe w'=>e=.returned (ab 8)/\w'=w:=by
 go_enter Tryz.func334,Tryz.ntmps334
 go_wp2;go_loop [1,2] (λn r=>∃k:Nat,k<=8/\n=ab k/\r=ai ((18446744073709551615 / 256 ^ k:Nat):Int)) (λn _=>8 - (intOf n).toNat)
 case atStart=>exact⟨0,by omega,rfl,rfl⟩
 case round =>
  obtain⟨k,hk,rfl,rfl⟩:=hrel
  rcases (by omega:k=0\/k=1\/k=2\/k=3\/k=4\/k=5\/k=6\/k=7\/k=8) with rfl|rfl|rfl|rfl|rfl|rfl|rfl|rfl|rfl
  ·go_wp2
   exact⟨⟨1,by omega,by go_num,by go_num⟩,by simp [intOf]⟩
  ·go_wp2
   exact⟨⟨2,by omega,by go_num,by go_num⟩,by simp [intOf]⟩
  ·go_wp2
   exact⟨⟨3,by omega,by go_num,by go_num⟩,by simp [intOf]⟩
  ·go_wp2
   exact⟨⟨4,by omega,by go_num,by go_num⟩,by simp [intOf]⟩
  ·go_wp2
   exact⟨⟨5,by omega,by go_num,by go_num⟩,by simp [intOf]⟩
  ·go_wp2
   exact⟨⟨6,by omega,by go_num,by go_num⟩,by simp [intOf]⟩
  ·go_wp2
   exact⟨⟨7,by omega,by go_num,by go_num⟩,by simp [intOf]⟩
  ·go_wp2
   exact⟨⟨8,by omega,by go_num,by go_num⟩,by simp [intOf]⟩
  ·go_wp2
   go_ret;exact⟨rfl,rfl⟩
def dx (w:World)(a:Option Addr)(base n:Nat)(L:List Nat)(v k:Nat)(o r t:Value)(w':World):Prop :=
 ∃(i:Nat) (a':Option Addr) (cap':Nat),i<=k/\t=ab (i:Int)/\r=ai ((v / 256 ^ i:Nat):Int)/\o=.slice a' (n+i) cap'/\Own w' base a' (n+i) cap' (L++bj v i)/\Gr a a' w w'
theorem eM (v i:Nat):IntKind.u8.wrap ((v / 256 ^ i:Nat):Int)=((v / 256 ^ i%256:Nat):Int):=by rw [IntKind.wrap_u8];omega
theorem eJ (v i:Nat):(((v / 256 ^ i:Nat):Int) / 256)=((v / 256 ^ (i+1):Nat):Int):=by
 rw [Nat.pow_succ,<-Nat.div_div_eq_div_mul];omega
theorem bY {w:World}{base n cap:Nat}{a:Option Addr}{L:List Nat}{b:Nat}(h:Own w base a n cap L)(hb:base<=w.heap.size)(hr:n+1<=140737488355328)(hb8:b<256) :
  ∃a' cap' w',(Builtin.append_ #[38,38] 38 #[.slice a n cap,.slice (some ⟨w.heap.size,0,none⟩) 1 1]).run Tryz.prog (w.alloc (Obj.cells #[Value.int .u8 (b:Int)] 5))=.ok (.slice a' (n+1) cap') w'/\Own w' base a' (n+1) cap' (L++[b])/\Gr a a' w w':=by
 obtain⟨a',cap',w',h1,h2,h4⟩:=dv (h.alloc (Obj.cells #[Value.int .u8 (b:Int)] 5)) (Row.one w b hb8) (by simp;omega) hr
 exact⟨a',cap',w',h1,h2,h4.pre (ag _ _)⟩
theorem zQ (a:Option Addr)(n cap:Nat)(L:List Nat)(v:Nat)(w:World)(base:Nat)(hv:v<65536)(h:Own w base a n cap L)(hb:base<=w.heap.size)(hr:n+2<=140737488355328) :
  Calls Tryz.prog 281 #[.slice a n cap,.int .u16 (v:Int)] w λe w'=>∃a' cap',e=.returned (.slice a' (n+2) cap')/\Own w' base a' (n+2) cap' (L++bj v 2)/\Gr a a' w w':=by
 have HR:Hid (n+2<=140737488355328):=hr
 have HV:Hid (dx w a base n L v 2 (.slice a n cap) (ai (v:Int)) (ab 0) w):=⟨0,a,cap,by omega,rfl,by simp,rfl,by simpa [cN] using h,Gr.refl _ _⟩
 clear h hr;go_enter Tryz.func281,Tryz.ntmps281
 go_wp2_with (first|(go_at_call 282;refine (iN _).mono ?_;rintro e w1 ⟨rfl,rfl⟩))
 rename World=>w
 go_loopw [0,5,9] (dx w a base n L v 2) (λ_ _ t _=>2 - (intOf t).toNat)
 case atStart=>exact HV.out
 case round =>
  clear HV;obtain⟨i,a',cap',hi,rfl,rfl,rfl,hown,hB⟩:=hrel
  have hbw:base<=wr.heap.size:=Nat.le_trans hb hB.but.size
  by_cases hlt:i<2
  ·have hd:decide ((i:Int)<2)=true:=by simp;omega
   have e1:=eM v i
   have e2:=eJ v i
   obtain⟨a2,c2,w2,hrun,hown2,hB2⟩:=bY (b:=v / 256 ^ i%256) hown hbw (by have:=HR.out;omega) (by omega)
   have ON:Hid _:=hrun
   have HO:Hid (Own w2 base a2 (n+(i+1)) c2 (L++bj v (i+1))):=by rw [cY,<-List.append_assoc];exact hown2
   have HB:Hid (Gr a a2 w w2):=hB.trans hB2
   clear hrun hown hown2 hB hB2;go_wp2_with (first|(at_builtin;refine aw rfl _ _ 38 rfl _ _ rfl rfl _ w2 ON.out ?_))
   go_roundw
   case rel=>exact⟨i+1,a2,c2,by omega,by go_num,by rw [<-e2];simp,rfl,HO.out,HB.out⟩
   case measure=>simp [intOf];omega
  ·obtain rfl:i=2:=by omega
   go_wp2;go_ret;exact⟨a',cap',rfl,hown,hB⟩
theorem rn (a:Option Addr)(n cap:Nat)(L:List Nat)(v:Nat)(w:World)(base:Nat)(hv:v<18446744073709551616)(h:Own w base a n cap L)(hb:base<=w.heap.size)(hr:n+8<=140737488355328) :
  Calls Tryz.prog 333 #[.slice a n cap,ai (v:Int)] w λe w'=>∃a' cap',e=.returned (.slice a' (n+8) cap')/\Own w' base a' (n+8) cap' (L++bj v 8)/\Gr a a' w w':=by
 have HR:Hid (n+8<=140737488355328):=hr
 have HV:Hid (dx w a base n L v 8 (.slice a n cap) (ai (v:Int)) (ab 0) w):=⟨0,a,cap,by omega,rfl,by simp,rfl,by simpa [cN] using h,Gr.refl _ _⟩
 clear h hr;go_enter Tryz.func333,Tryz.ntmps333
 go_wp2_with (first|(go_at_call 334;refine (ku _).mono ?_;rintro e w1 ⟨rfl,rfl⟩))
 rename World=>w
 go_loopw [0,5,8] (dx w a base n L v 8) (λ_ _ t _=>8 - (intOf t).toNat)
 case atStart=>exact HV.out
 case round =>
  clear HV;obtain⟨i,a',cap',hi,rfl,rfl,rfl,hown,hB⟩:=hrel
  have hbw:base<=wr.heap.size:=Nat.le_trans hb hB.but.size
  by_cases hlt:i<8
  ·have hd:decide ((i:Int)<8)=true:=by simp;omega
   have e1:=eM v i
   have e2:=eJ v i
   obtain⟨a2,c2,w2,hrun,hown2,hB2⟩:=bY (b:=v / 256 ^ i%256) hown hbw (by have:=HR.out;omega) (by omega)
   have ON:Hid _:=hrun
   have HO:Hid (Own w2 base a2 (n+(i+1)) c2 (L++bj v (i+1))):=by rw [cY,<-List.append_assoc];exact hown2
   have HB:Hid (Gr a a2 w w2):=hB.trans hB2
   clear hrun hown hown2 hB hB2;go_wp2_with (first|(at_builtin;refine aw rfl _ _ 38 rfl _ _ rfl rfl _ w2 ON.out ?_))
   go_roundw
   case rel=>exact⟨i+1,a2,c2,by omega,by go_num,by rw [<-e2];simp,rfl,HO.out,HB.out⟩
   case measure=>simp [intOf];omega
  ·obtain rfl:i=8:=by omega
   go_wp2;go_ret;exact⟨a',cap',rfl,hown,hB⟩
theorem AJ (a:Option Addr)(n cap:Nat)(L:List Nat)(v:Nat)(w:World)(hv:v<65536)(h:Row w a n cap L)(hr:n+2<=140737488355328) :
  Calls Tryz.prog 217 #[.slice a n cap,.int .u16 (v:Int)] w λe w'=>∃a' cap',e=.returned (.slice a' (n+2) cap')/\Own w' w.heap.size a' (n+2) cap' (L++bj v 2)/\Below w.heap.size w w':=by
 have HR:Hid (n+2<=140737488355328):=hr
 clear hr;go_enter Tryz.func217,Tryz.ntmps217
 go_wp2_with (first|(go_at_call 282;refine (iN _).mono ?_;rintro e w1 ⟨rfl,rfl⟩)|(go_at_call 279;refine (de a n cap 2 L _ h HR.out).mono ?_;rintro e w2 ⟨g,rfl,hown,hb⟩)|(go_at_call 281;refine (zQ _ _ _ L v _ _ hv hown hb.size HR.out).mono ?_;rintro e w3 ⟨a3,c3,rfl,hown3,hb3⟩))
 go_ret;exact⟨a3,c3,rfl,hown3,hb.trans (hb3.below hown hb.size)⟩
end Go.Proofs.YtmhinfbkmjdgfaaGreatDoor.B
namespace Go.Proofs.YtmhinfbkmjdgfaaGreatDoor.B
open Go.RowKit
end Go.Proofs.YtmhinfbkmjdgfaaGreatDoor.B
namespace Go.Proofs.YtmhinfbkmjdgfaaGreatDoor.B
open Go.RowKit
end Go.Proofs.YtmhinfbkmjdgfaaGreatDoor.B
namespace Go.Proofs.YtmhinfbkmjdgfaaGreatDoor.B
open Go.RowKit
variable {base n:Nat}{S:Nat->Prop}{w w':World}
theorem jf {e:TypeId}{size:Nat}{v:Value}{xs:List Value}(hb:aj S w w')(h:w.ownsRow base e size v n xs)(hS:∀k,base<=k->¬S k):w'.ownsRow base e size v n xs:=by
 refine⟨h.1,?_⟩
 rcases h.2 with h|⟨g,cap,cur,hv,hg,hh,r⟩
 ·exact .inl h
 ·exact .inr ⟨g,cap,cur,hv,hg,by rw [hb.block g (Array.getElem?_eq_some_iff.1 hh).1 (hS g hg)];exact hh,r⟩
theorem Own.but {a:Option Addr}{cap:Nat}{L:List Nat}(hb:aj S w w')(h:Own w base a n cap L)(hS:∀k,base<=k->¬S k):Own w' base a n cap L:=⟨jf hb h.row hS,h.small⟩
end Go.Proofs.YtmhinfbkmjdgfaaGreatDoor.B
namespace Go.Proofs.YtmhinfbkmjdgfaaGreatDoor.B
open Go.RowKit
variable {b:Int}{L:List Nat}{base cap k n:Nat}{S:Nat->Prop}{a:Option Addr}{w w':World}
def Fa (w:World)(k:Nat)(a b:Int):Prop:=w.cell? ⟨k,0,none⟩=some (ai a)/\w.cell? ⟨k,1,none⟩=some (ai b)
theorem Fa.new (w:World)(a b:Int):Fa (w.alloc (.cells #[ai a,ai b] 30)) w.heap.size a b:=⟨by simp [go_sem],by simp [go_sem]⟩
theorem Fa.but {a:Int}(hb:aj S w w')(h:Fa w k a b)(hn:¬S k):Fa w' k a b:=by
 have hk:=hb.block k (World.block_lt_of_cell? _ _ h.1) hn
 exact⟨by rw [World.cell?_of_block (w:=w) hk];exact h.1,by rw [World.cell?_of_block (w:=w) hk];exact h.2⟩
theorem Own.drew (h:Own w base a n cap L):Own w.drew base a n cap L:=h.later (Below.refl _ _).drew
theorem Own.lt (h:Own w base a n cap L):∀k,aI a k->k<w.heap.size:=by
 intro k ⟨x,hx,hk⟩
 subst hx;rcases h.row.2 with ⟨h,_⟩|⟨g',c,cur,hv,_,hh,_⟩
 ·simp at h
 ·simp only [Value.slice.injEq,Option.some.injEq] at hv
  obtain⟨rfl,_⟩:=hv
  subst hk;exact (Array.getElem?_eq_some_iff.1 hh).1
theorem qq {a':Option Addr}(g:Gr a a' w w')(hk:k<w.heap.size)(hn:¬aI a k):¬aI a' k:=λh=>by
 rcases g.on k h with h1|h1
 ·exact hn h1
 ·omega
theorem pX (a:Option Addr)(n cap:Nat)(L:List Nat)(hi lo:Nat)(w:World)(base:Nat)(hhi:hi<18446744073709551616)(hlo:lo<18446744073709551616)(h:Own w base a n cap L)(hb:base<=w.heap.size)(hr:n+16<=140737488355328) :
  Calls Tryz.prog 435 #[.slice a n cap,.agg #[ai (hi:Int),ai (lo:Int)]] w λe w'=>∃a' cap',e=.returned (.slice a' (n+16) cap')/\Own w' base a' (n+16) cap' (L++bj lo 8++bj hi 8)/\Gr a a' w w':=by
 have HR:Hid (n+16<=140737488355328):=hr
 have hnb:¬aI a w.heap.size:=λhk=>by have:=h.lt _ hk;omega
 have H0:Hid (Own (w.alloc (Obj.cells #[Value.int IntKind.u64 (hi:Int),Value.int IntKind.u64 (lo:Int)] 30)).drew base a n cap L):=(h.alloc _).drew
 have X0:Hid (Fa (w.alloc (Obj.cells #[Value.int IntKind.u64 (hi:Int),Value.int IntKind.u64 (lo:Int)] 30)).drew w.heap.size hi lo):=Fa.new w hi lo
 clear h hr;go_enter Tryz.func435,Tryz.ntmps435
 go_wp2;go_region_held3 (λw'=>(w'.cell? ⟨w.heap.size,0,none⟩=some (ai (hi:Int))/\w'.cell? ⟨w.heap.size,1,none⟩=some (ai (lo:Int)))) (first|exact X0.out|exact X1|exact X2) (first|(go_at_call 333;refine (rn _ _ _ _ hi _ base hhi hown1 (by simp at hs1;omega) (by have:=HR.out;omega)).mono ?_;rintro e w2 ⟨a2,c2,rfl,hown2,hg2⟩;have X2:=X1.but hg2.but (qq hg1 (by simp) hnb))|(go_at_call 333;refine (rn a n cap L lo _ base hlo H0.out (by simp;omega) (by have:=HR.out;omega)).mono ?_;rintro e w1 ⟨a1,c1,rfl,hown1,hg1⟩;have X1:=X0.out.but hg1.but hnb;have hs1:=hg1.but.size))
 go_wp2;go_ret;refine⟨a2,c2,rfl,hown2,?_⟩
 exact (hg1.trans hg2).pre (((ag _ _)).drew)
def tJ (w:World)(k:Nat)(o a b:Int):Prop:=w.cell? ⟨k,0,none⟩=some (ab o)/\w.cell? ⟨k,1,none⟩=some (ai a)/\w.cell? ⟨k,2,none⟩=some (ai b)
theorem tJ.new (w:World)(o a b:Int):tJ (w.alloc (.cells #[ab o,ai a,ai b] 37)) w.heap.size o a b:=⟨by simp [go_sem],by simp [go_sem],by simp [go_sem]⟩
theorem tJ.but {o a:Int}(hb:aj S w w')(h:tJ w k o a b)(hn:¬S k):tJ w' k o a b:=by
 have hk:=hb.block k (World.block_lt_of_cell? _ _ h.1) hn
 exact⟨by rw [World.cell?_of_block (w:=w) hk];exact h.1,by rw [World.cell?_of_block (w:=w) hk];exact h.2.1,by rw [World.cell?_of_block (w:=w) hk];exact h.2.2⟩
def AX (o:Int):Int:=if o<0\/4611686018427387904<o then 5 else 0
def BE (L:List Nat)(o:Int)(hi lo:Nat):List Nat:=if AX o=0 then L++bj o.toNat 8++bj lo 8++bj hi 8 else []
theorem tc (a:Option Addr)(n cap:Nat)(L:List Nat)(o:Int)(hi lo:Nat)(w:World)(hhi:hi<18446744073709551616)(hlo:lo<18446744073709551616)(h:Row w a n cap L)(hr:n+24<=140737488355328) :
  Calls Tryz.prog 411 #[.slice a n cap,.agg #[ab o,ai (hi:Int),ai (lo:Int)]] w λe w'=>∃a' n' cap',e=.returned (.tuple #[.slice a' n' cap',ab (AX o)])/\Own w' w.heap.size a' n' cap' (BE L o hi lo)/\Below w.heap.size w w':=by
 by_cases h0:o<0
 ·have e1:AX o=5:=by unfold AX;rw [if_pos (.inl h0)]
  have e2:BE L o hi lo=[]:=by unfold BE;rw [e1,if_neg (by omega)]
  rw [e1,e2];have hd:decide (o<0)=true:=decide_eq_true h0
  go_enter Tryz.func411,Tryz.ntmps411
  go_wp2;exact bodyPost_ret (v:=.tuple #[.slice none 0 0,ab 5]) (by simp [results,Tryz.results411,go_sem]) rfl ⟨none,0,0,rfl,Own.nil _ _,ag _ _⟩
 by_cases h1:4611686018427387904<o
 ·have e1:AX o=5:=by unfold AX;rw [if_pos (.inr h1)]
  have e2:BE L o hi lo=[]:=by unfold BE;rw [e1,if_neg (by omega)]
  rw [e1,e2];have hd:decide (o<0)=false:=decide_eq_false h0
  have hd1:decide (4611686018427387904<o)=true:=decide_eq_true h1
  go_enter Tryz.func411,Tryz.ntmps411
  go_wp2;exact bodyPost_ret (v:=.tuple #[.slice none 0 0,ab 5]) (by simp [results,Tryz.results411,go_sem]) rfl ⟨none,0,0,rfl,Own.nil _ _,ag _ _⟩
 have e1:AX o=0:=by unfold AX;rw [if_neg (by omega)]
 have e2:BE L o hi lo=L++bj o.toNat 8++bj lo 8++bj hi 8:=by unfold BE;rw [if_pos e1]
 rw [e1,e2];obtain⟨m,rfl⟩:∃m:Nat,o=(m:Int):=⟨o.toNat,by omega⟩
 rw [Int.toNat_natCast];have hm:m<18446744073709551616:=by omega
 have ew:IntKind.u64.wrap (m:Int)=(m:Int):=by rw [IntKind.wrap_u64];omega
 have hd:decide ((m:Int)<0)=false:=decide_eq_false h0
 have hd1:decide (4611686018427387904<(m:Int))=false:=decide_eq_false h1
 have HR:Hid (n+24<=140737488355328):=hr
 have H0:Hid (Row (w.alloc (Obj.cells #[ab (m:Int),Value.int IntKind.u64 (hi:Int),Value.int IntKind.u64 (lo:Int)] 37)).drew a n cap L):=h.later ((ag _ _).drew)
 have X0:Hid (tJ (w.alloc (Obj.cells #[ab (m:Int),Value.int IntKind.u64 (hi:Int),Value.int IntKind.u64 (lo:Int)] 37)).drew w.heap.size m hi lo):=tJ.new w m hi lo
 clear h hr h0 h1 e1 e2;go_enter Tryz.func411,Tryz.ntmps411
 go_upto_region 3 with fail
 go_region_held3 (λw'=>(w'.cell? ⟨w.heap.size,0,none⟩=some (ab (m:Int))/\w'.cell? ⟨w.heap.size,1,none⟩=some (ai (hi:Int))/\w'.cell? ⟨w.heap.size,2,none⟩=some (ai (lo:Int)))) (first|exact X0.out|exact X1|exact X2) (first|(go_at_call 333;refine (rn _ _ _ _ m _ _ hm hown1 hb1.size (by have:=HR.out;omega)).mono ?_;rintro e w2 ⟨a2,c2,rfl,hown2,hg2⟩;have X2:=X1.but hg2.but (λhk=>by have:=hown1.dB _ hk;simp at this;omega))|(go_at_call 279;refine (de a n cap 24 L _ H0.out HR.out).mono ?_;rintro e w1 ⟨g1,rfl,hown1,hb1⟩;have X1:=X0.out.but (S:=λ_=>False) (aj.of hb1) (λh=>h)))
 have x1:=X2.2.1
 have x2:=X2.2.2
 have hs2:=Nat.le_trans hb1.size hg2.but.size
 go_wp2_with (first|(go_at_call 435;refine (pX _ _ _ _ hi lo _ _ hhi hlo hown2 hs2 (by have:=HR.out;omega)).mono ?_;rintro e w3 ⟨a3,c3,rfl,hown3,hg3⟩))
 refine bodyPost_ret (v:=.tuple #[.slice a3 (n+8+16) c3,ab 0]) (by simp [results,Tryz.results411,go_sem]) rfl ⟨a3,_,c3,rfl,hown3.mono (by simp),?_⟩
 exact (aa ((ag _ _).drew) hb1).trans ((((hg2.trans hg3).below hown1 hb1.size)).mono (by simp))
end Go.Proofs.YtmhinfbkmjdgfaaGreatDoor.B
namespace Go.Proofs.YtmhinfbkmjdgfaaGreatDoor.B
open Go.RowKit
abbrev R4:=Option Addr×Nat×Nat×List Nat
def iE (r:R4):Value:=.slice r.1 r.2.1 r.2.2.1
def aV:List R4->List Nat
 | []=>[]
 | r::rs=>r.2.2.2++aV rs
theorem cF (rs qs:List R4):aV (rs++qs)=aV rs++aV qs:=by
 induction rs with
 | nil=>rfl
 | cons r rs ih=>simp [aV,ih]
theorem eZ (rs:List R4)(i:Nat)(h:i<rs.length):aV (rs.take (i+1))=aV (rs.take i)++rs[i].2.2.2:=by
 rw [List.take_succ_eq_append_getElem h,cF];simp [aV]
theorem dg (rs:List R4)(i:Nat):(aV (rs.take i)).length<=(aV rs).length:=by
 have:aV rs=aV (rs.take i)++aV (rs.drop i):=by rw [<-cF,List.take_append_drop]
 rw [this,List.length_append];omega
def sW (rs:List R4)(z t:Value):Prop:=∃i:Nat,i<=rs.length/\t=ab (i:Int)/\z=ab ((aV (rs.take i)).length:Int)
def rZ (w:World)(rs:List R4)(o t:Value)(w':World):Prop:=∃(i:Nat) (a:Option Addr) (n cap:Nat),i<=rs.length/\t=ab (i:Int)/\o=.slice a n cap/\Own w' w.heap.size a n cap (aV (rs.take i))/\Below w.heap.size w w'
theorem gh (b cap k:Nat)(rs:List R4)(w:World)(hk:k=rs.length)(hrl:rs.length<1000)(hc:∀j (hj:j<rs.length),w.cell? ⟨b,j,none⟩=some (iE rs[j]))(hrow:∀r∈rs,Row w r.1 r.2.1 r.2.2.1 r.2.2.2)(hr:(aV rs).length<=140737488355328) :
  Calls Tryz.prog 220 #[.slice (some ⟨b,0,none⟩) k cap] w λe w'=>∃a' n' cap',e=.returned (.slice a' n' cap')/\Own w' w.heap.size a' n' cap' (aV rs)/\Below w.heap.size w w':=by
 subst hk;have HC:Hid (∀j (hj:j<rs.length),w.cell? ⟨b,j,none⟩=some (iE rs[j])):=hc
 have O5:Hid (∀r∈rs,Row w r.1 r.2.1 r.2.2.1 r.2.2.2):=hrow
 have HR:Hid ((aV rs).length<=140737488355328):=hr
 clear hc hrow hr;go_enter Tryz.func220,Tryz.ntmps220
 go_wp2;go_loop [3,11] (sW rs) (λ_ t=>rs.length - (intOf t).toNat)
 case atStart=>exact⟨0,by omega,rfl,rfl⟩
 case round =>
  obtain⟨i,hi,rfl,rfl⟩:=hrel
  have ei:IntKind.i64.wrap ((i:Int)+1)=(i:Int)+1:=by rw [IntKind.wrap_i64];omega
  by_cases hlt:i<rs.length
  ·have hd:decide ((i:Int)<(rs.length:Int))=true:=by simp;omega
   have hcell:=HC.out i hlt
   obtain⟨a1,n1,c1,L1,iL⟩:∃a1 n1 c1 L1,rs[i]=(a1,n1,c1,L1):=⟨_,_,_,_,rfl⟩
   have hR:=O5.out _ (List.getElem_mem hlt)
   have hct:=eZ rs i hlt
   have hle:=dg rs (i+1)
   rw [iL] at hcell hR hct;simp only [iE] at hcell;have hlen:=hR.len
   simp only at hlen hct;have HT:Hid ((aV (rs.take (i+1))).length=(aV (rs.take i)).length+n1):=by unfold Hid;rw [hct,List.length_append,hlen]
   have ew:IntKind.i64.wrap (((aV (rs.take i)).length:Int)+(n1:Int))=((aV (rs.take i)).length:Int)+(n1:Int):=by
    have:=HR.out
    have:=HT.out
    rw [IntKind.wrap_i64];omega
   clear hR hct hle iL;go_wp2;exact⟨⟨i+1,by omega,by simp,by rw [HT.out];simp⟩,by simp [intOf];omega⟩
  ·obtain rfl:i=rs.length:=by omega
   rename World=>w
   rw [List.take_length];obtain⟨z,hz⟩:∃z,z=(aV rs).length:=⟨_,rfl⟩
   have HZ:Hid (0+z<=140737488355328):=by have:=HR.out;unfold Hid;omega
   rw [<-hz];clear hz ei;go_wp2_with (first|(go_at_call 279;refine (de none 0 0 z [] _ (bh _) HZ.out).mono ?_;rintro e w2 ⟨g,rfl,hown,hb⟩))
   go_loopw [6,24] (rZ w rs) (λ_ t _=>rs.length - (intOf t).toNat)
   case atStart=>exact⟨0,_,_,_,by omega,rfl,rfl,by simpa [aV] using hown,hb⟩
   case round =>
    clear hown hb hlt hi;obtain⟨i,a',n',cap',hi,rfl,rfl,hown,hB⟩:=hrel
    have ei:IntKind.i64.wrap ((i:Int)+1)=(i:Int)+1:=by rw [IntKind.wrap_i64];omega
    by_cases hlt:i<rs.length
    ·have hd:decide ((i:Int)<(rs.length:Int))=true:=by simp;omega
     have hcell:=cell_later hB (HC.out i hlt)
     obtain⟨a1,n1,c1,L1,iL⟩:∃a1 n1 c1 L1,rs[i]=(a1,n1,c1,L1):=⟨_,_,_,_,rfl⟩
     have hR:=(O5.out _ (List.getElem_mem hlt)).later hB
     have hct:=eZ rs i hlt
     have hle:=dg rs (i+1)
     rw [iL] at hcell hR hct;simp only [iE] at hcell;simp only at hR hct;have hl1:=hR.len
     have hl2:=hown.len
     have hl3:(aV (rs.take (i+1))).length=(aV (rs.take i)).length+L1.length:=by rw [hct,List.length_append]
     obtain⟨a2,c2,w3,hrun,hown2,hg2⟩:=dv hown hR hB.size (by have:=HR.out;omega)
     rw [<-hct] at hown2;have ON:Hid _:=hrun
     have HB:Hid (Below w.heap.size w w3):=hB.trans (hg2.below hown hB.size)
     clear hrun hown hB hg2 hR hct hle iL hl1 hl2 hl3;go_wp2_with (first|(at_builtin;refine aw rfl _ _ 38 rfl _ _ rfl rfl _ w3 ON.out ?_))
     go_roundw
     case rel=>exact⟨i+1,a2,_,c2,by omega,by simp,rfl,hown2,HB.out⟩
     case measure=>simp [intOf];omega
    ·obtain rfl:i=rs.length:=by omega
     rw [List.take_length] at hown;go_wp2;go_ret;exact⟨_,_,_,rfl,hown,hB⟩
end Go.Proofs.YtmhinfbkmjdgfaaGreatDoor.B
