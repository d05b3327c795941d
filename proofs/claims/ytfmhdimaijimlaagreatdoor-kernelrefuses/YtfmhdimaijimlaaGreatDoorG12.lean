import Derived.Test.YtfmhdimaijimlaaGreatDoorG11
set_option linter.unusedVariables false
set_option linter.unusedSimpArgs false
set_option maxRecDepth 1000000
set_option maxHeartbeats 8000000
namespace Go.Proofs.YtfmhdimaijimlaaGreatDoor.R
open Go.RowKit
theorem layPart0 (L:List Value)(c:Cl)(w0 w:World)(h:Cc w0 L c)(hb0:Below w0.heap.size w0 w)(hb:inB c=true):Calls Tryz.prog 100 #[.agg L.toArray,.int .i64 0] w fun e w'=>∃a n c',e=.returned (.slice a n c')∧Lr w0 w' a n c' (layP c 0)∧Below w.heap.size w w':=by
 have hok:=all_okP hb (by obtain⟨d,g,e,hi⟩:=h.ex;exact hi.hi) (by obtain⟨d,g,e,hi⟩:=h.ex;exact hi.lo) 0
 obtain⟨d,g,rfl,hi⟩:=h.ex
 obtain⟨op,by_,size,obj,hI,lo,given,rights,off,n,data,index,gifts⟩:=c
 obtain⟨da,dn,dc⟩:=d
 obtain⟨ga,gn,gc⟩:=g
 have HS0:=hid hb0.size
 have X1:=Bx.new w (cC ⟨op,by_,size,obj,hI,lo,given,rights,off,n,data,index,gifts⟩ ⟨da,dn,dc⟩ ⟨ga,gn,gc⟩) 45
 have hc:=X1.cell 2 rfl
 clear X1 hok hi hb h hb0
 go_enter Tryz.func100,Tryz.ntmps100
 go_wp2_with (first|(go_at_call 143;refine (laySigned_any _ _).mono ?_;rintro e w2 ⟨a2,c2,rfl,hown,hb2⟩))
 go_ret
 exact⟨_,_,_,rfl,.inr (hown.mono (by have:=HS0.out;simp;omega)),bc (below1 _ _) hb2⟩
theorem layPart1 (L:List Value)(c:Cl)(w0 w:World)(h:Cc w0 L c)(hb0:Below w0.heap.size w0 w)(hb:inB c=true):Calls Tryz.prog 100 #[.agg L.toArray,.int .i64 1] w fun e w'=>∃a n c',e=.returned (.slice a n c')∧Lr w0 w' a n c' (layP c 1)∧Below w.heap.size w w':=by
 have hok:=all_okP hb (by obtain⟨d,g,e,hi⟩:=h.ex;exact hi.hi) (by obtain⟨d,g,e,hi⟩:=h.ex;exact hi.lo) 1
 obtain⟨d,g,rfl,hi⟩:=h.ex
 obtain⟨op,by_,size,obj,hI,lo,given,rights,off,n,data,index,gifts⟩:=c
 obtain⟨da,dn,dc⟩:=d
 obtain⟨ga,gn,gc⟩:=g
 have HS0:=hid hb0.size
 have X1:=Bx.new w (cC ⟨op,by_,size,obj,hI,lo,given,rights,off,n,data,index,gifts⟩ ⟨da,dn,dc⟩ ⟨ga,gn,gc⟩) 45
 have hB:=wi_iff.1 (hok.2.1 rfl)
 simp only at hB
 obtain⟨m,hm⟩:∃m:Nat,obj=(m:Int):=⟨obj.toNat,by omega⟩
 subst hm
 have ew:IntKind.u64.wrap (m:Int)=(m:Int):=by rw [IntKind.wrap_u64];omega
 have HM:Hid (m<18446744073709551616):=by unfold Hid;omega
 have hc:=X1.cell 3 rfl
 clear X1 hok hi hb h hb0 hB
 go_enter Tryz.func100,Tryz.ntmps100
 go_wp2_with (first|(go_at_call 144;refine (p64 m HM.out _).mono ?_;rintro e w2 ⟨a2,c2,rfl,hown,hb2⟩))
 go_ret
 exact⟨_,_,_,rfl,.inr (hown.mono (by have:=HS0.out;simp;omega)),bc (below1 _ _) hb2⟩
theorem layPart2 (L:List Value)(c:Cl)(w0 w:World)(h:Cc w0 L c)(hb0:Below w0.heap.size w0 w)(hb:inB c=true):Calls Tryz.prog 100 #[.agg L.toArray,.int .i64 2] w fun e w'=>∃a n c',e=.returned (.slice a n c')∧Lr w0 w' a n c' (layP c 2)∧Below w.heap.size w w':=by
 have hok:=all_okP hb (by obtain⟨d,g,e,hi⟩:=h.ex;exact hi.hi) (by obtain⟨d,g,e,hi⟩:=h.ex;exact hi.lo) 2
 obtain⟨d,g,rfl,hi⟩:=h.ex
 obtain⟨op,by_,size,obj,hI,lo,given,rights,off,n,data,index,gifts⟩:=c
 obtain⟨da,dn,dc⟩:=d
 obtain⟨ga,gn,gc⟩:=g
 have HS0:=hid hb0.size
 have X1:=Bx.new w (cC ⟨op,by_,size,obj,hI,lo,given,rights,off,n,data,index,gifts⟩ ⟨da,dn,dc⟩ ⟨ga,gn,gc⟩) 45
 have hc:=X1.cell 4 rfl
 have hc5:=X1.cell 5 rfl
 have H2:=hid (hok.2.2.1 rfl)
 clear X1 hok hi hb h hb0
 go_enter Tryz.func100,Tryz.ntmps100
 go_wp2_with (first|(go_at_call 145;refine (wideBytes_any hI lo _ H2.out.1 H2.out.2).mono ?_;rintro e w2 ⟨a2,c2,rfl,hown,hb2⟩))
 go_ret
 exact⟨_,_,_,rfl,.inr (hown.mono (by have:=HS0.out;simp;omega)),bc (below1 _ _) hb2⟩
theorem layPart3 (L:List Value)(c:Cl)(w0 w:World)(h:Cc w0 L c)(hb0:Below w0.heap.size w0 w)(hb:inB c=true):Calls Tryz.prog 100 #[.agg L.toArray,.int .i64 3] w fun e w'=>∃a n c',e=.returned (.slice a n c')∧Lr w0 w' a n c' (layP c 3)∧Below w.heap.size w w':=by
 have hok:=all_okP hb (by obtain⟨d,g,e,hi⟩:=h.ex;exact hi.hi) (by obtain⟨d,g,e,hi⟩:=h.ex;exact hi.lo) 3
 obtain⟨d,g,rfl,hi⟩:=h.ex
 obtain⟨op,by_,size,obj,hI,lo,given,rights,off,n,data,index,gifts⟩:=c
 obtain⟨da,dn,dc⟩:=d
 obtain⟨ga,gn,gc⟩:=g
 have HS0:=hid hb0.size
 have X1:=Bx.new w (cC ⟨op,by_,size,obj,hI,lo,given,rights,off,n,data,index,gifts⟩ ⟨da,dn,dc⟩ ⟨ga,gn,gc⟩) 45
 have hc:=X1.cell 6 rfl
 clear X1 hok hi hb h hb0
 go_enter Tryz.func100,Tryz.ntmps100
 go_wp2_with (first|(go_at_call 146;refine (layFlag_any _ _).mono ?_;rintro e w2 ⟨a2,c2,rfl,hown,hb2⟩))
 go_ret
 exact⟨_,_,_,rfl,.inr (hown.mono (by have:=HS0.out;simp;omega)),bc (below1 _ _) hb2⟩
theorem layPart4 (L:List Value)(c:Cl)(w0 w:World)(h:Cc w0 L c)(hb0:Below w0.heap.size w0 w)(hb:inB c=true):Calls Tryz.prog 100 #[.agg L.toArray,.int .i64 4] w fun e w'=>∃a n c',e=.returned (.slice a n c')∧Lr w0 w' a n c' (layP c 4)∧Below w.heap.size w w':=by
 have hok:=all_okP hb (by obtain⟨d,g,e,hi⟩:=h.ex;exact hi.hi) (by obtain⟨d,g,e,hi⟩:=h.ex;exact hi.lo) 4
 obtain⟨d,g,rfl,hi⟩:=h.ex
 obtain⟨op,by_,size,obj,hI,lo,given,rights,off,n,data,index,gifts⟩:=c
 obtain⟨da,dn,dc⟩:=d
 obtain⟨ga,gn,gc⟩:=g
 have HS0:=hid hb0.size
 have X1:=Bx.new w (cC ⟨op,by_,size,obj,hI,lo,given,rights,off,n,data,index,gifts⟩ ⟨da,dn,dc⟩ ⟨ga,gn,gc⟩) 45
 have hB:=wi_iff.1 (hok.2.2.2.1 rfl)
 simp only at hB
 obtain⟨m,hm⟩:∃m:Nat,rights=(m:Int):=⟨rights.toNat,by omega⟩
 subst hm
 have ew:IntKind.u8.wrap (m:Int)=(m:Int):=by rw [IntKind.wrap_u8];omega
 have HM:Hid (m<256):=by unfold Hid;omega
 have hc:=X1.cell 7 rfl
 clear X1 hok hi hb h hb0 hB
 go_enter Tryz.func100,Tryz.ntmps100
 go_wp2_with (first|(go_at_call 97;refine (p8 m HM.out _).mono ?_;rintro e w2 ⟨a2,c2,rfl,hown,hb2⟩))
 go_ret
 exact⟨_,_,_,rfl,.inr (hown.mono (by have:=HS0.out;simp;omega)),bc (below1 _ _) hb2⟩
theorem layPart5 (L:List Value)(c:Cl)(w0 w:World)(h:Cc w0 L c)(hb0:Below w0.heap.size w0 w)(hb:inB c=true):Calls Tryz.prog 100 #[.agg L.toArray,.int .i64 5] w fun e w'=>∃a n c',e=.returned (.slice a n c')∧Lr w0 w' a n c' (layP c 5)∧Below w.heap.size w w':=by
 have hok:=all_okP hb (by obtain⟨d,g,e,hi⟩:=h.ex;exact hi.hi) (by obtain⟨d,g,e,hi⟩:=h.ex;exact hi.lo) 5
 obtain⟨d,g,rfl,hi⟩:=h.ex
 obtain⟨op,by_,size,obj,hI,lo,given,rights,off,n,data,index,gifts⟩:=c
 obtain⟨da,dn,dc⟩:=d
 obtain⟨ga,gn,gc⟩:=g
 have HS0:=hid hb0.size
 have X1:=Bx.new w (cC ⟨op,by_,size,obj,hI,lo,given,rights,off,n,data,index,gifts⟩ ⟨da,dn,dc⟩ ⟨ga,gn,gc⟩) 45
 have hc:=X1.cell 8 rfl
 clear X1 hok hi hb h hb0
 go_enter Tryz.func100,Tryz.ntmps100
 go_wp2_with (first|(go_at_call 143;refine (laySigned_any _ _).mono ?_;rintro e w2 ⟨a2,c2,rfl,hown,hb2⟩))
 go_ret
 exact⟨_,_,_,rfl,.inr (hown.mono (by have:=HS0.out;simp;omega)),bc (below1 _ _) hb2⟩
theorem layPart6 (L:List Value)(c:Cl)(w0 w:World)(h:Cc w0 L c)(hb0:Below w0.heap.size w0 w)(hb:inB c=true):Calls Tryz.prog 100 #[.agg L.toArray,.int .i64 6] w fun e w'=>∃a n c',e=.returned (.slice a n c')∧Lr w0 w' a n c' (layP c 6)∧Below w.heap.size w w':=by
 have hok:=all_okP hb (by obtain⟨d,g,e,hi⟩:=h.ex;exact hi.hi) (by obtain⟨d,g,e,hi⟩:=h.ex;exact hi.lo) 6
 obtain⟨d,g,rfl,hi⟩:=h.ex
 obtain⟨op,by_,size,obj,hI,lo,given,rights,off,n,data,index,gifts⟩:=c
 obtain⟨da,dn,dc⟩:=d
 obtain⟨ga,gn,gc⟩:=g
 have HS0:=hid hb0.size
 have X1:=Bx.new w (cC ⟨op,by_,size,obj,hI,lo,given,rights,off,n,data,index,gifts⟩ ⟨da,dn,dc⟩ ⟨ga,gn,gc⟩) 45
 have hc:=X1.cell 9 rfl
 clear X1 hok hi hb h hb0
 go_enter Tryz.func100,Tryz.ntmps100
 go_wp2_with (first|(go_at_call 143;refine (laySigned_any _ _).mono ?_;rintro e w2 ⟨a2,c2,rfl,hown,hb2⟩))
 go_ret
 exact⟨_,_,_,rfl,.inr (hown.mono (by have:=HS0.out;simp;omega)),bc (below1 _ _) hb2⟩
theorem layPart7 (L:List Value)(c:Cl)(w0 w:World)(h:Cc w0 L c)(hb0:Below w0.heap.size w0 w)(hb:inB c=true):Calls Tryz.prog 100 #[.agg L.toArray,.int .i64 7] w fun e w'=>∃a n c',e=.returned (.slice a n c')∧Lr w0 w' a n c' (layP c 7)∧Below w.heap.size w w':=by
 have hok:=all_okP hb (by obtain⟨d,g,e,hi⟩:=h.ex;exact hi.hi) (by obtain⟨d,g,e,hi⟩:=h.ex;exact hi.lo) 7
 obtain⟨d,g,rfl,hi⟩:=h.ex
 obtain⟨op,by_,size,obj,hI,lo,given,rights,off,n,data,index,gifts⟩:=c
 obtain⟨da,dn,dc⟩:=d
 obtain⟨ga,gn,gc⟩:=g
 have HS0:=hid hb0.size
 have X1:=Bx.new w (cC ⟨op,by_,size,obj,hI,lo,given,rights,off,n,data,index,gifts⟩ ⟨da,dn,dc⟩ ⟨ga,gn,gc⟩) 45
 have hc:=X1.cell 10 rfl
 have HD:=hid hi.data
 clear X1 hok hi hb h hb0
 go_enter Tryz.func100,Tryz.ntmps100
 go_wp2
 go_ret
 exact⟨_,_,_,rfl,.inl HD.out,below1 _ _⟩
theorem layPart8 (L:List Value)(c:Cl)(w0 w:World)(h:Cc w0 L c)(hb0:Below w0.heap.size w0 w)(hb:inB c=true):Calls Tryz.prog 100 #[.agg L.toArray,.int .i64 8] w fun e w'=>∃a n c',e=.returned (.slice a n c')∧Lr w0 w' a n c' (layP c 8)∧Below w.heap.size w w':=by
 have hok:=all_okP hb (by obtain⟨d,g,e,hi⟩:=h.ex;exact hi.hi) (by obtain⟨d,g,e,hi⟩:=h.ex;exact hi.lo) 8
 obtain⟨d,g,rfl,hi⟩:=h.ex
 obtain⟨op,by_,size,obj,hI,lo,given,rights,off,n,data,index,gifts⟩:=c
 obtain⟨da,dn,dc⟩:=d
 obtain⟨ga,gn,gc⟩:=g
 have HS0:=hid hb0.size
 have X1:=Bx.new w (cC ⟨op,by_,size,obj,hI,lo,given,rights,off,n,data,index,gifts⟩ ⟨da,dn,dc⟩ ⟨ga,gn,gc⟩) 45
 have hB:=wi_iff.1 (hok.2.2.2.2.2.2.2.1 rfl)
 simp only at hB
 obtain⟨m,hm⟩:∃m:Nat,index=(m:Int):=⟨index.toNat,by omega⟩
 subst hm
 have ew:IntKind.u16.wrap (m:Int)=(m:Int):=by rw [IntKind.wrap_u16];omega
 have HM:Hid (m<65536):=by unfold Hid;omega
 have hc:=X1.cell 11 rfl
 clear X1 hok hi hb h hb0 hB
 go_enter Tryz.func100,Tryz.ntmps100
 go_wp2_with (first|(go_at_call 98;refine (p16 m HM.out _).mono ?_;rintro e w2 ⟨a2,c2,rfl,hown,hb2⟩))
 go_ret
 exact⟨_,_,_,rfl,.inr (hown.mono (by have:=HS0.out;simp;omega)),bc (below1 _ _) hb2⟩
theorem layPart9 (L:List Value)(c:Cl)(w0 w:World)(h:Cc w0 L c)(hb0:Below w0.heap.size w0 w)(hb:inB c=true):Calls Tryz.prog 100 #[.agg L.toArray,.int .i64 9] w fun e w'=>∃a n c',e=.returned (.slice a n c')∧Lr w0 w' a n c' (layP c 9)∧Below w.heap.size w w':=by
 have hok:=all_okP hb (by obtain⟨d,g,e,hi⟩:=h.ex;exact hi.hi) (by obtain⟨d,g,e,hi⟩:=h.ex;exact hi.lo) 9
 obtain⟨d,g,rfl,hi⟩:=h.ex
 obtain⟨op,by_,size,obj,hI,lo,given,rights,off,n,data,index,gifts⟩:=c
 obtain⟨da,dn,dc⟩:=d
 obtain⟨ga,gn,gc⟩:=g
 have HS0:=hid hb0.size
 have X1:=Bx.new w (cC ⟨op,by_,size,obj,hI,lo,given,rights,off,n,data,index,gifts⟩ ⟨da,dn,dc⟩ ⟨ga,gn,gc⟩) 45
 have hc:=X1.cell 12 rfl
 have H9:=hid (hok.2.2.2.2.2.2.2.2 rfl)
 have HR:Hid (∀o,RI (w.alloc o) ga gn gc gifts):=fun o=>(hi.gifts.later hb0).later (below1 _ _)
 clear X1 hok hi hb h hb0
 go_enter Tryz.func100,Tryz.ntmps100
 go_wp2_with (first|(go_at_call 147;refine (layGifts_any ga gn gc gifts _ (HR.out _) H9.out).mono ?_;rintro e w2 ⟨a2,n2,c2,rfl,hown,hb2⟩))
 go_ret
 exact⟨_,_,_,rfl,.inr (hown.mono (by have:=HS0.out;simp;omega)),bc (below1 _ _) hb2⟩
theorem layPart_any (p:Nat)(hp:p<10)(L:List Value)(c:Cl)(w0 w:World)(h:Cc w0 L c)(hb0:Below w0.heap.size w0 w)(hb:inB c=true):Calls Tryz.prog 100 #[.agg L.toArray,.int .i64 (p:Int)] w fun e w'=>∃a n c',e=.returned (.slice a n c')∧Lr w0 w' a n c' (layP c p)∧Below w.heap.size w w':=by
 rcases (by omega:p=0∨p=1∨p=2∨p=3∨p=4∨p=5∨p=6∨p=7∨p=8∨p=9) with rfl|rfl|rfl|rfl|rfl|rfl|rfl|rfl|rfl|rfl
 ·exact layPart0 L c w0 w h hb0 hb
 ·exact layPart1 L c w0 w h hb0 hb
 ·exact layPart2 L c w0 w h hb0 hb
 ·exact layPart3 L c w0 w h hb0 hb
 ·exact layPart4 L c w0 w h hb0 hb
 ·exact layPart5 L c w0 w h hb0 hb
 ·exact layPart6 L c w0 w h hb0 hb
 ·exact layPart7 L c w0 w h hb0 hb
 ·exact layPart8 L c w0 w h hb0 hb
 ·exact layPart9 L c w0 w h hb0 hb
def LcRel (w:World)(L:List Value)(c:Cl)(ps:List Nat)(pa:Option Addr)(n:Nat)(l t:Value)(w':World):Prop :=
 ∃(i:Nat) (a:Option Addr) (cp:Nat) (rs:List R4),i≤n∧t=.int .i64 (i:Int)∧l=.slice a (2+i) cp∧OR w w' a (2+i) cp rs∧cat4 rs=leL c.op.toNat 1++leL c.by_.toNat 2++layA c (ps.take i)∧Bx w' w.heap.size L∧RP w' (w.heap.size+1) pa n ps∧Below w.heap.size w w'∧∀k,Blk a k→w.heap.size<k∧¬Blk pa k
theorem RP.but2 {S:Nat→Prop}{W w1:World}{base:Nat}{a:Option Addr}{n:Nat}{L:List Nat}(hb:But S W w1)(h:RP W base a n L)(hS:∀k,Blk a k→¬S k):RP w1 base a n L :=
 ⟨h.len,fun j hj=>by
  obtain⟨b,hb1,hb2,hc⟩:=h.cells j hj
  exact⟨b,hb1,hb2,by rw [World.cell?_of_block (w:=W) (hb.block b (World.block_lt_of_cell? _ _ hc) (hS b ⟨_,hb1,rfl⟩))];exact hc⟩⟩
theorem layP_len {c:Cl}(hb:inB c=true)(p:Nat):(layP c p).length≤1025:=by
 simp only [inB,Bool.and_eq_true,decide_eq_true_eq,gfB] at hb
 unfold layP
 repeat' split
 all_goals (try simp only [leL_length,List.length_append,g2_length,List.length_nil])
 all_goals omega
theorem layA_len {c:Cl}(hb:inB c=true):∀ps:List Nat,(layA c ps).length≤1025*ps.length
 | []=>by simp [layA]
 | p::ps=>by
  have:=layP_len hb p
  have:=layA_len hb ps
  simp only [layA,List.length_append,List.length_cons]
  omega
theorem layCall_any (L:List Value)(c:Cl)(w:World)(h:Cc w L c)(hf:fm c=true) :
  Calls Tryz.prog 57 #[.agg L.toArray] w fun e w'=>∃a n c',e=.returned (.slice a n c')∧Own w' w.heap.size a n c' (ly c)∧Below w.heap.size w w':=by
 have hf0:=hf
 simp only [fm,Bool.and_eq_true] at hf
 obtain⟨⟨⟨hop,hin⟩,_⟩,_⟩:=hf
 have hop:=wi_iff.1 hop
 have hby:0≤c.by_∧c.by_≤65535:=by
  have:=hin
  simp only [inB,Bool.and_eq_true] at this
  exact wi_iff.1 this.1.1.1.1.1.1.1.1
 obtain⟨o,ho⟩:∃o:Nat,c.op=(o:Int):=⟨c.op.toNat,by omega⟩
 obtain⟨b,hbb⟩:∃b:Nat,c.by_=(b:Int):=⟨c.by_.toNat,by omega⟩
 have eo:IntKind.u8.wrap (o:Int)=(o:Int):=by rw [IntKind.wrap_u8];omega
 have eb:IntKind.u16.wrap (b:Int)=(b:Int):=by rw [IntKind.wrap_u16];omega
 have HOB:Hid (o<256∧b<65536):=⟨by omega,by omega⟩
 have HOE:Hid (c.op.toNat=o∧c.by_.toNat=b∧c.op=(o:Int)):=⟨by omega,by omega,ho⟩
 have hl0:L[0]?=some (.int .i64 (o:Int)):=by rw [←ho];exact h.op
 have hl1:L[1]?=some (.int .i64 (b:Int)):=by rw [←hbb];obtain⟨d,g,rfl,hi⟩:=h.ex;rfl
 have X0:=Bx.new w L 45
 have HX:Hid (Bx (w.alloc (Obj.cells L.toArray 45)).drew w.heap.size L):=X0.later (Below.refl _ _).drew
 have HC0:Hid (∀W,Bx W w.heap.size L→W.cell? ⟨w.heap.size,0,none⟩=some (.int .i64 (o:Int))∧W.cell? ⟨w.heap.size,1,none⟩=some (.int .i64 (b:Int))):=fun W hW=>⟨hW.cell 0 hl0,hW.cell 1 hl1⟩
 have HB0:Hid (Below w.heap.size w (w.alloc (Obj.cells L.toArray 45)).drew):=(below1 _ _).drew
 have S0:=HC0.out _ HX.out
 have HIN:=hid hin
 have HH:=hid h
 clear X0 hl0 hl1 h hin hop hby ho hbb
 go_enter Tryz.func57,Tryz.ntmps57
 go_upto_region 1 with fail
 go_region_held3 (fun w'=>(w'.cell? ⟨w.heap.size,0,none⟩=some (.int .i64 (o:Int))∧w'.cell? ⟨w.heap.size,1,none⟩=some (.int .i64 (b:Int)))) (first|exact S2|exact S1|exact S0|exact HC0.out _ (HX2.out.later (below1 _ _))) (first|(go_at_call 98;refine (p16 b HOB.out.2 _).mono ?_;rintro e w2 ⟨a2,c2,rfl,hown2,hb2⟩;have HO2:=hid (And.intro (hown2.mono HB1.out.size) (HO1.out.later hb2));have HB2:=hid (bc HB1.out hb2);have HX2:=hid (HX1.out.later hb2);have S2:=HC0.out _ HX2.out;clear hown2 hb2)|(go_at_call 97;refine (p8 o HOB.out.1 _).mono ?_;rintro e w1 ⟨a1,c1,rfl,hown1,hb1⟩;have HO1:=hid (hown1.mono HB0.out.size);have HB1:=hid (bc HB0.out hb1);have HX1:=hid (HX.out.later hb1);have S1:=HC0.out _ HX1.out;clear hown1 hb1))
 have HX3:Hid (Bx (w2.alloc (Obj.cells #[.slice a1 1 c1,.slice a2 2 c2] 39)) w.heap.size L):=HX2.out.later (below1 _ _)
 have HB3:Hid (Below w.heap.size w (w2.alloc (Obj.cells #[.slice a1 1 c1,.slice a2 2 c2] 39))):=bc HB2.out (below1 _ _)
 have HO3:Hid (OR w (w2.alloc (Obj.cells #[.slice a1 1 c1,.slice a2 2 c2] 39)) (some ⟨w2.heap.size,0,none⟩) 2 2 [(a1,1,c1,leL o 1),(a2,2,c2,leL b 2)]):=OR.two (.inr HO2.out.2) (.inr HO2.out.1) HB2.out
 have HS3:Hid (w.heap.size+1≤(w2.alloc (Obj.cells #[.slice a1 1 c1,.slice a2 2 c2] 39)).heap.size):=by unfold Hid;have:=HB2.out.size;simp;omega
 have S3:=(HC0.out _ HX3.out).1
 have HX2s:=hid (World.block_lt_of_cell? _ _ S2.1)
 have HS4:Hid (w2.heap.size<(w2.alloc (Obj.cells #[.slice a1 1 c1,.slice a2 2 c2] 39)).heap.size):=by unfold Hid;simp
 clear S0 S1 S2 HO1 HB1 HX1 HO2 HX2 HX eo eb HC0 HB0
 rename_i hHeld
 clear hHeld
 have HS2:Hid (w.heap.size<w2.heap.size):=by unfold Hid;exact HX2s.out
 obtain⟨w3,hw3⟩:∃w3,w3=w2.alloc (Obj.cells #[.slice a1 1 c1,.slice a2 2 c2] 39):=⟨_,rfl⟩
 rw [←hw3] at HX3 HB3 HO3 HS3 HS4 S3 ⊢
 clear hw3 HB2
 go_upto_region 3 with (first|(go_at_call 99;refine (partsOf_any (o:Int) _).mono ?_;rintro e w4 ⟨pa,n,cp,rfl,hrp,hn5,hb4,hpb4⟩))
 have HPA:=hid hpb4
 clear hpb4
 have R0:Hid (LcRel w L c (partsL c.op) pa n (.slice (some ⟨w2.heap.size,0,none⟩) 2 2) (.int .i64 0) w4):=by
  refine⟨0,_,2,_,by omega,rfl,rfl,HO3.out.later hb4,?_,HX3.out.later hb4,?_,bc HB3.out hb4,fun k ⟨x,hx,hk⟩=>?_⟩
  rotate_right
  ·cases hx
   simp only at hk
   subst hk
   refine⟨by have:=HS2.out;omega,fun ⟨y,hy,hk⟩=>?_⟩
   have:=HPA.out _ ⟨y,hy,rfl⟩
   have:=HS4.out
   omega
  ·rw [HOE.out.1,HOE.out.2.1];simp [cat4,layA]
  ·rw [HOE.out.2.2]
   exact⟨hrp.len,fun j hj=>by obtain⟨x,h1,h2,h3⟩:=hrp.cells j hj;exact⟨x,h1,by have:=HS3.out;omega,h3⟩⟩
 have HN:Hid ((partsL c.op).length=n):=by unfold Hid;rw [HOE.out.2.2];exact hrp.len
 clear hrp hb4 HO3 HX3 HB3 HS3 S3 HPA
 go_loopw [3,19] (LcRel w L c (partsL c.op) pa n) (fun _ t _=>n - (intOf t).toNat)
 case atStart=>exact R0.out
 case round =>
  clear R0
  obtain⟨i,x,cx,rs,hi,rfl,rfl,hor,hcat,hbx,hrp,hbw,hap⟩:=hrel
  have ei:IntKind.i64.wrap ((i:Int)+1)=(i:Int)+1:=by rw [IntKind.wrap_i64];omega
  by_cases hlt:i<n
  ·have hdi:decide ((i:Int)<(n:Int))=true:=by simp;omega
   have hiP:i<(partsL c.op).length:=by have:=HN.out;omega
   obtain⟨pb,rfl,hpb,hpc⟩:=hrp.cells i hiP
   have HT:Hid _:=List.take_succ_eq_append_getElem hiP
   have hp10:Hid ((partsL c.op)[i]<10):=(parts_ok c.op).1 _ (List.getElem_mem hiP)
   generalize (partsL c.op)[i]=p at hpc HT hp10
   have HLD:=hid (ld41 hbx.range HH.out.len)
   have HOR:=hid hor
   have HCAT:=hid hcat
   have HBX:=hid hbx
   have HRP:=hid hrp
   have HBW:=hid hbw
   have HAP:=hid hap
   have HPC:=hid hpc
   clear hor hcat hbx hrp hbw hap
   go_upto_region 5 with fail
   go_wp2_with (first|((with_reducible refine ld_arm HLD.out ?_ ?_);(· rfl))|(go_at_call 100;refine (layPart_any p hp10.out L c w _ HH.out HBW.out HIN.out).mono ?_;rintro e w5 ⟨a5,n5,c5,rfl,hlr,hb5⟩;obtain⟨a6,c6,w6,hrun,hor6,hbw6,hbut6,hon6⟩:=append_row (HOR.out.later hb5) hlr (bc HBW.out hb5) (by omega);have HRUN:=hid hrun;have HOR6:=hid hor6;have HB6:=hid hbw6;have HX6:=hid ((HBX.out.later hb5).but hbut6 (fun hk=>by have:=(HAP.out _ hk).1;omega));have HRP6:=hid ((HRP.out.later hb5).but2 hbut6 (fun k hk hk2=>(HAP.out k hk2).2 hk));have HAP6:=hid (fun k hk=>(hon6 k hk).elim (fun h=>HAP.out k h) (fun h=>(⟨by have:=HBX.out.lt (by rw [HH.out.len];omega);have:=hb5.size;omega,fun hk2=>by obtain⟨y,hy1,hy2⟩:=hk2;cases hy1;have q1:pb<_:=World.block_lt_of_cell? _ _ HPC.out;have q2:=hb5.size;have q3:pb=k:=hy2;omega⟩:w.heap.size<k∧¬Blk (some ⟨pb,0,none⟩) k)));clear hrun hor6 hbw6 hbut6 hlr hb5 hon6)|(at_builtin;refine wk_ rfl _ _ 186 rfl _ _ rfl rfl _ w6 HRUN.out ?_))
   go_roundw
   case rel=>exact⟨i+1,a6,c6,_,by omega,by go_num,rfl,HOR6.out,by rw [cat4_append,HCAT.out,HT.out,layA_append];simp [cat4,layA],HX6.out,HRP6.out,HB6.out,HAP6.out⟩
   case measure=>simp [intOf];omega
  ·obtain rfl:i=n:=by omega
   have HX:Hid (cat4 rs=ly c):=by
    unfold Hid ly
    rw [hcat,List.take_of_length_le (by have:=HN.out;omega)]
   have hle:(cat4 rs).length≤140737488355328:=by
    rw [HX.out]
    unfold ly
    have:=layA_len HIN.out (partsL c.op)
    have:=HN.out
    simp only [List.length_append,leL_length]
    omega
   have HJ:=hid (join_or hor hbw (by omega) (by omega) hle)
   have HBW:=hid hbw
   clear hor hbw hcat hle hbx hrp hap
   go_wp2_with (first|(go_at_call 101;refine HJ.out.mono ?_;rintro e w2 ⟨a2,n2,c2,rfl,hown2,hb2⟩))
   go_ret
   exact⟨_,_,_,rfl,by rw [←HX.out];exact hown2.mono HBW.out.size,bc HBW.out hb2⟩
theorem bytes_ok (L:List Value)(c:Cl)(w:World)(h:Cc w L c)(hf:fm c=true) :
  Calls Tryz.prog 30 #[.agg L.toArray] w fun e w'=>∃a n c',e=.returned (.tuple #[.slice a n c',.int .i64 0])∧Own w' w.heap.size a n c' (ly c)∧Below w.heap.size w w':=by
 have X1:Hid (Bx (w.alloc (Obj.cells L.toArray 45)) w.heap.size L):=Bx.new w L 45
 have HLD1:=hid (ld41 X1.out.range h.len)
 have HL:=hid h.len
 have HC:Hid (Cc (w.alloc (Obj.cells L.toArray 45)) L c):=h.later (below1 _ _)
 clear h
 go_enter Tryz.func30,Tryz.ntmps30
 go_wp2_with (first|((with_reducible refine ld_arm HLD2.out ?_ ?_);(· rfl))|((with_reducible refine ld_arm HLD1.out ?_ ?_);(· rfl))|(go_at_call 56;refine (isCall_any L c _ HC.out).mono ?_;rintro e w2 ⟨rfl,hb2⟩;rw [hf];have HLD2:=hid (ld41 (X1.out.later hb2).range HL.out);have HC2:=hid (HC.out.later hb2);have HB2:=hid hb2;clear hb2)|(go_at_call 57;refine (layCall_any L c _ HC2.out hf).mono ?_;rintro e w3 ⟨a,n,c',rfl,hown,hb3⟩))
 exact bodyPost_ret (v:=.tuple #[.slice a n c',.int .i64 0]) (by simp [results,Tryz.results30,go_sem]) rfl ⟨_,_,_,rfl,hown.mono (by have:=HB2.out.size;simp at this;omega),bc (bc (below1 _ _) HB2.out) hb3⟩
theorem bytes_bad (L:List Value)(c:Cl)(w:World)(h:Cc w L c)(hf:fm c=false) :
  Calls Tryz.prog 30 #[.agg L.toArray] w fun e w'=>e=.returned (.tuple #[.slice none 0 0,.int .i64 1])∧Below w.heap.size w w':=by
 have X1:Hid (Bx (w.alloc (Obj.cells L.toArray 45)) w.heap.size L):=Bx.new w L 45
 have HLD1:=hid (ld41 X1.out.range h.len)
 have HC:Hid (Cc (w.alloc (Obj.cells L.toArray 45)) L c):=h.later (below1 _ _)
 clear h
 go_enter Tryz.func30,Tryz.ntmps30
 go_wp2_with (first|((with_reducible refine ld_arm HLD1.out ?_ ?_);(· rfl))|(go_at_call 56;refine (isCall_any L c _ HC.out).mono ?_;rintro e w2 ⟨rfl,hb2⟩;rw [hf];have HB2:=hid hb2;clear hb2))
 exact bodyPost_ret (v:=.tuple #[.slice none 0 0,.int .i64 1]) (by simp [results,Tryz.results30,go_sem]) rfl ⟨rfl,bc (below1 _ _) HB2.out⟩
end Go.Proofs.YtfmhdimaijimlaaGreatDoor.R
