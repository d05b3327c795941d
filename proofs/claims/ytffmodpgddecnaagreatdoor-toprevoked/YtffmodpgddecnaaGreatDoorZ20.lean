import Derived.Test.YtffmodpgddecnaaGreatDoorZ19
set_option linter.unusedVariables false
set_option linter.unusedSimpArgs false
set_option maxRecDepth 100000
set_option maxHeartbeats 4000000
namespace Go.Proofs.YtffmodpgddecnaaGreatDoor.R
open Go.RowKit
def ED (w:World)(n:Nat)(G:List Int)(l t:Value)(w':World):Prop :=
 ∃(i:Nat) (a:Option Addr) (c:Nat) (rs:List R4),i<=n/\t=.int .i64 (i:Int)/\l=.slice a (1+i) c/\OR w w' a (1+i) c rs/\bS rs=cI n 1++g2 (G.take i)/\Below w.heap.size w w'
theorem pF (a:Option Addr)(n cap:Nat)(G:List Int)(w:World)(h:RI w a n cap G)(hg:uQ G=true) :
  Calls Tryz.prog 251 #[.slice a n cap] w λe w'=>∃a' n' c',e=.returned (.slice a' n' c')/\Own w' w.heap.size a' n' c' (cI G.length 1++g2 G)/\Below w.heap.size w w':=by
 have hlen:=h.len
 simp only [uQ,Bool.and_eq_true,decide_eq_true_eq,List.all_eq_true,gE] at hg;obtain⟨hg1,hg2⟩:=hg
 have hn:n<=255:=by omega
 have e1:IntKind.u8.wrap (n:Int)=(n:Int):=by rw [IntKind.wrap_u8];omega
 have H:=ab h
 have HG:=ab hg2
 have HL:=ab hlen
 clear h hg2 hg1 hlen;go_enter Tryz.func251,Tryz.ntmps251
 go_upto_region 2 with (first|(go_at_call 176;refine (p8 n (by omega) _).mono ?_;rintro e w1 ⟨a1,c1,rfl,hown,hb1⟩))
 have R0:Hid (ED w n G (.slice (some ⟨w1.heap.size,0,none⟩) (1+0) 1) (.int .i64 0) (w1.alloc (Obj.cells #[.slice a1 1 c1] 38))):=⟨0,_,1,_,by omega,rfl,rfl,OR.one (.inr hown) hb1,by simp [bS,g2],aa hb1 (ae _ _)⟩
 clear hown hb1;go_upto_region 3 with fail
 go_loopw [3,13] (ED w n G) (λ_ t _=>n - (intOf t).toNat)
 case atStart=>exact R0.out
 case round =>
  clear R0;obtain⟨i,b,c,rs,hi,rfl,rfl,hor,hcat,hbw⟩:=hrel
  have ei:IntKind.i64.wrap ((i:Int)+1)=(i:Int)+1:=by rw [IntKind.wrap_i64];omega
  by_cases hlt:i<n
  ·have hdi:decide ((i:Int)<(n:Int))=true:=by simp;omega
   obtain⟨gb,o,rfl,hc⟩:=H.out.plain (by omega)
   have hiG:i<G.length:=by have:=HL.out;omega
   have hcell:=cell_later hbw (hc i hiG)
   have hgi:=HG.out _ (List.getElem_mem hiG)
   have HT:Hid (g2 (G.take (i+1))=g2 (G.take i)++cI (G[i].toNat) 2):=by unfold Hid;rw [List.take_succ_eq_append_getElem hiG,nZ,yv]
   generalize G[i]=x at hcell hgi HT
   obtain⟨m,rfl⟩:∃m:Nat,x=(m:Int):=⟨x.toNat,by omega⟩
   rw [Int.toNat_natCast] at HT;have e2:IntKind.u16.wrap (m:Int)=(m:Int):=by rw [IntKind.wrap_u16];omega
   have hm:m<65536:=by omega
   have UR:=ab hor
   have Ql:=ab hbw
   have HM:=ab hm
   have Sh:=ab hcat
   clear hor hbw hc hgi hm hcat;go_upto_region 5 with fail
   go_wp2_with (first|(go_at_call 164;refine (JN m HM.out _).mono ?_;rintro e w2 ⟨a2,c2,rfl,hown2,hb2⟩;obtain⟨a3,c3,w3,hrun,hor3,hbw3,_,_⟩:=lX (UR.out.later hb2) (.inr (hown2.mono Ql.out.size)) (aa Ql.out hb2) (by omega);have PD:=ab hrun;have Ul:=ab hor3;have PE:=ab hbw3;clear hrun hor3 hbw3 hown2 hb2)|(at_builtin;refine al rfl _ _ 78 rfl _ _ rfl rfl _ w3 PD.out ?_))
   go_roundw
   case rel=>exact⟨i+1,a3,c3,_,by omega,by go_num,rfl,Ul.out,by rw [eL,Sh.out,HT.out];simp [bS],PE.out⟩
   case measure=>simp [intOf];omega
  ·obtain rfl:i=n:=by omega
   have HX:Hid (bS rs=cI G.length 1++g2 G):=by
    unfold Hid;rw [hcat,List.take_of_length_le (by have:=HL.out;omega),HL.out]
   have hle:(bS rs).length<=140737488355328:=by
    rw [HX.out,List.length_append,cT,nj];have:=HL.out
    omega
   have HJ:=ab (uK hor hbw (by omega) (by omega) hle)
   have Ql:=ab hbw
   clear hor hbw hcat hle;go_wp2_with (first|(go_at_call 165;refine HJ.out.mono ?_;rintro e w2 ⟨a2,n2,c2,rfl,hown2,hb2⟩))
   go_ret;exact⟨_,_,_,rfl,by rw [<-HX.out];exact hown2.mono Ql.out.size,aa Ql.out hb2⟩
theorem Bh (L:List Value)(c:Cl)(w0 w:World)(h:Cc w0 L c)(hb0:Below w0.heap.size w0 w)(hb:dM c=true):Calls Tryz.prog 177 #[.agg L.toArray,.int .i64 0] w λe w'=>∃a n c',e=.returned (.slice a n c')/\Lr w0 w' a n c' (jC c 0)/\Below w.heap.size w w':=by
 have hok:=dx hb (by obtain⟨d,g,e,hi⟩:=h.ex;exact hi.hi) (by obtain⟨d,g,e,hi⟩:=h.ex;exact hi.lo) 0
 obtain⟨d,g,rfl,hi⟩:=h.ex
 obtain⟨op,aB,size,obj,hI,lo,given,aA,off,n,data,index,ax⟩:=c
 obtain⟨da,dn,dc⟩:=d
 obtain⟨ga,gn,gc⟩:=g
 have P4:=ab hb0.size
 have X1:=Bx.new w (cC ⟨op,aB,size,obj,hI,lo,given,aA,off,n,data,index,ax⟩ ⟨da,dn,dc⟩ ⟨ga,gn,gc⟩) 44
 have hc:=X1.cell 2 rfl
 clear X1 hok hi hb h hb0;go_enter Tryz.func177,Tryz.ntmps177
 go_wp2_with (first|(go_at_call 247;refine (eS _ _).mono ?_;rintro e w2 ⟨a2,c2,rfl,hown,hb2⟩))
 go_ret;exact⟨_,_,_,rfl,.inr (hown.mono (by have:=P4.out;simp;omega)),aa (ae _ _) hb2⟩
theorem Bb (L:List Value)(c:Cl)(w0 w:World)(h:Cc w0 L c)(hb0:Below w0.heap.size w0 w)(hb:dM c=true):Calls Tryz.prog 177 #[.agg L.toArray,.int .i64 1] w λe w'=>∃a n c',e=.returned (.slice a n c')/\Lr w0 w' a n c' (jC c 1)/\Below w.heap.size w w':=by
 have hok:=dx hb (by obtain⟨d,g,e,hi⟩:=h.ex;exact hi.hi) (by obtain⟨d,g,e,hi⟩:=h.ex;exact hi.lo) 1
 obtain⟨d,g,rfl,hi⟩:=h.ex
 obtain⟨op,aB,size,obj,hI,lo,given,aA,off,n,data,index,ax⟩:=c
 obtain⟨da,dn,dc⟩:=d
 obtain⟨ga,gn,gc⟩:=g
 have P4:=ab hb0.size
 have X1:=Bx.new w (cC ⟨op,aB,size,obj,hI,lo,given,aA,off,n,data,index,ax⟩ ⟨da,dn,dc⟩ ⟨ga,gn,gc⟩) 44
 have hB:=gE.1 (hok.2.1 rfl)
 simp only at hB;obtain⟨m,hm⟩:∃m:Nat,obj=(m:Int):=⟨obj.toNat,by omega⟩
 subst hm;have ew:IntKind.u64.wrap (m:Int)=(m:Int):=by rw [IntKind.wrap_u64];omega
 have HM:Hid (m<18446744073709551616):=by unfold Hid;omega
 have hc:=X1.cell 3 rfl
 clear X1 hok hi hb h hb0 hB;go_enter Tryz.func177,Tryz.ntmps177
 go_wp2_with (first|(go_at_call 248;refine (K1 m HM.out _).mono ?_;rintro e w2 ⟨a2,c2,rfl,hown,hb2⟩))
 go_ret;exact⟨_,_,_,rfl,.inr (hown.mono (by have:=P4.out;simp;omega)),aa (ae _ _) hb2⟩
theorem AA (L:List Value)(c:Cl)(w0 w:World)(h:Cc w0 L c)(hb0:Below w0.heap.size w0 w)(hb:dM c=true):Calls Tryz.prog 177 #[.agg L.toArray,.int .i64 2] w λe w'=>∃a n c',e=.returned (.slice a n c')/\Lr w0 w' a n c' (jC c 2)/\Below w.heap.size w w':=by
 have hok:=dx hb (by obtain⟨d,g,e,hi⟩:=h.ex;exact hi.hi) (by obtain⟨d,g,e,hi⟩:=h.ex;exact hi.lo) 2
 obtain⟨d,g,rfl,hi⟩:=h.ex
 obtain⟨op,aB,size,obj,hI,lo,given,aA,off,n,data,index,ax⟩:=c
 obtain⟨da,dn,dc⟩:=d
 obtain⟨ga,gn,gc⟩:=g
 have P4:=ab hb0.size
 have X1:=Bx.new w (cC ⟨op,aB,size,obj,hI,lo,given,aA,off,n,data,index,ax⟩ ⟨da,dn,dc⟩ ⟨ga,gn,gc⟩) 44
 have hc:=X1.cell 4 rfl
 have hc5:=X1.cell 5 rfl
 have H2:=ab (hok.2.2.1 rfl)
 clear X1 hok hi hb h hb0;go_enter Tryz.func177,Tryz.ntmps177
 go_wp2_with (first|(go_at_call 249;refine (mZ hI lo _ H2.out.1 H2.out.2).mono ?_;rintro e w2 ⟨a2,c2,rfl,hown,hb2⟩))
 go_ret;exact⟨_,_,_,rfl,.inr (hown.mono (by have:=P4.out;simp;omega)),aa (ae _ _) hb2⟩
theorem BS (L:List Value)(c:Cl)(w0 w:World)(h:Cc w0 L c)(hb0:Below w0.heap.size w0 w)(hb:dM c=true):Calls Tryz.prog 177 #[.agg L.toArray,.int .i64 3] w λe w'=>∃a n c',e=.returned (.slice a n c')/\Lr w0 w' a n c' (jC c 3)/\Below w.heap.size w w':=by
 have hok:=dx hb (by obtain⟨d,g,e,hi⟩:=h.ex;exact hi.hi) (by obtain⟨d,g,e,hi⟩:=h.ex;exact hi.lo) 3
 obtain⟨d,g,rfl,hi⟩:=h.ex
 obtain⟨op,aB,size,obj,hI,lo,given,aA,off,n,data,index,ax⟩:=c
 obtain⟨da,dn,dc⟩:=d
 obtain⟨ga,gn,gc⟩:=g
 have P4:=ab hb0.size
 have X1:=Bx.new w (cC ⟨op,aB,size,obj,hI,lo,given,aA,off,n,data,index,ax⟩ ⟨da,dn,dc⟩ ⟨ga,gn,gc⟩) 44
 have hc:=X1.cell 6 rfl
 clear X1 hok hi hb h hb0;go_enter Tryz.func177,Tryz.ntmps177
 go_wp2_with (first|(go_at_call 250;refine (qU _ _).mono ?_;rintro e w2 ⟨a2,c2,rfl,hown,hb2⟩))
 go_ret;exact⟨_,_,_,rfl,.inr (hown.mono (by have:=P4.out;simp;omega)),aa (ae _ _) hb2⟩
theorem AF (L:List Value)(c:Cl)(w0 w:World)(h:Cc w0 L c)(hb0:Below w0.heap.size w0 w)(hb:dM c=true):Calls Tryz.prog 177 #[.agg L.toArray,.int .i64 4] w λe w'=>∃a n c',e=.returned (.slice a n c')/\Lr w0 w' a n c' (jC c 4)/\Below w.heap.size w w':=by
 have hok:=dx hb (by obtain⟨d,g,e,hi⟩:=h.ex;exact hi.hi) (by obtain⟨d,g,e,hi⟩:=h.ex;exact hi.lo) 4
 obtain⟨d,g,rfl,hi⟩:=h.ex
 obtain⟨op,aB,size,obj,hI,lo,given,aA,off,n,data,index,ax⟩:=c
 obtain⟨da,dn,dc⟩:=d
 obtain⟨ga,gn,gc⟩:=g
 have P4:=ab hb0.size
 have X1:=Bx.new w (cC ⟨op,aB,size,obj,hI,lo,given,aA,off,n,data,index,ax⟩ ⟨da,dn,dc⟩ ⟨ga,gn,gc⟩) 44
 have hB:=gE.1 (hok.2.2.2.1 rfl)
 simp only at hB;obtain⟨m,hm⟩:∃m:Nat,aA=(m:Int):=⟨aA.toNat,by omega⟩
 subst hm;have ew:IntKind.u8.wrap (m:Int)=(m:Int):=by rw [IntKind.wrap_u8];omega
 have HM:Hid (m<256):=by unfold Hid;omega
 have hc:=X1.cell 7 rfl
 clear X1 hok hi hb h hb0 hB;go_enter Tryz.func177,Tryz.ntmps177
 go_wp2_with (first|(go_at_call 176;refine (p8 m HM.out _).mono ?_;rintro e w2 ⟨a2,c2,rfl,hown,hb2⟩))
 go_ret;exact⟨_,_,_,rfl,.inr (hown.mono (by have:=P4.out;simp;omega)),aa (ae _ _) hb2⟩
theorem BI (L:List Value)(c:Cl)(w0 w:World)(h:Cc w0 L c)(hb0:Below w0.heap.size w0 w)(hb:dM c=true):Calls Tryz.prog 177 #[.agg L.toArray,.int .i64 5] w λe w'=>∃a n c',e=.returned (.slice a n c')/\Lr w0 w' a n c' (jC c 5)/\Below w.heap.size w w':=by
 have hok:=dx hb (by obtain⟨d,g,e,hi⟩:=h.ex;exact hi.hi) (by obtain⟨d,g,e,hi⟩:=h.ex;exact hi.lo) 5
 obtain⟨d,g,rfl,hi⟩:=h.ex
 obtain⟨op,aB,size,obj,hI,lo,given,aA,off,n,data,index,ax⟩:=c
 obtain⟨da,dn,dc⟩:=d
 obtain⟨ga,gn,gc⟩:=g
 have P4:=ab hb0.size
 have X1:=Bx.new w (cC ⟨op,aB,size,obj,hI,lo,given,aA,off,n,data,index,ax⟩ ⟨da,dn,dc⟩ ⟨ga,gn,gc⟩) 44
 have hc:=X1.cell 8 rfl
 clear X1 hok hi hb h hb0;go_enter Tryz.func177,Tryz.ntmps177
 go_wp2_with (first|(go_at_call 247;refine (eS _ _).mono ?_;rintro e w2 ⟨a2,c2,rfl,hown,hb2⟩))
 go_ret;exact⟨_,_,_,rfl,.inr (hown.mono (by have:=P4.out;simp;omega)),aa (ae _ _) hb2⟩
theorem Az (L:List Value)(c:Cl)(w0 w:World)(h:Cc w0 L c)(hb0:Below w0.heap.size w0 w)(hb:dM c=true):Calls Tryz.prog 177 #[.agg L.toArray,.int .i64 6] w λe w'=>∃a n c',e=.returned (.slice a n c')/\Lr w0 w' a n c' (jC c 6)/\Below w.heap.size w w':=by
 have hok:=dx hb (by obtain⟨d,g,e,hi⟩:=h.ex;exact hi.hi) (by obtain⟨d,g,e,hi⟩:=h.ex;exact hi.lo) 6
 obtain⟨d,g,rfl,hi⟩:=h.ex
 obtain⟨op,aB,size,obj,hI,lo,given,aA,off,n,data,index,ax⟩:=c
 obtain⟨da,dn,dc⟩:=d
 obtain⟨ga,gn,gc⟩:=g
 have P4:=ab hb0.size
 have X1:=Bx.new w (cC ⟨op,aB,size,obj,hI,lo,given,aA,off,n,data,index,ax⟩ ⟨da,dn,dc⟩ ⟨ga,gn,gc⟩) 44
 have hc:=X1.cell 9 rfl
 clear X1 hok hi hb h hb0;go_enter Tryz.func177,Tryz.ntmps177
 go_wp2_with (first|(go_at_call 247;refine (eS _ _).mono ?_;rintro e w2 ⟨a2,c2,rfl,hown,hb2⟩))
 go_ret;exact⟨_,_,_,rfl,.inr (hown.mono (by have:=P4.out;simp;omega)),aa (ae _ _) hb2⟩
theorem A5 (L:List Value)(c:Cl)(w0 w:World)(h:Cc w0 L c)(hb0:Below w0.heap.size w0 w)(hb:dM c=true):Calls Tryz.prog 177 #[.agg L.toArray,.int .i64 7] w λe w'=>∃a n c',e=.returned (.slice a n c')/\Lr w0 w' a n c' (jC c 7)/\Below w.heap.size w w':=by
 have hok:=dx hb (by obtain⟨d,g,e,hi⟩:=h.ex;exact hi.hi) (by obtain⟨d,g,e,hi⟩:=h.ex;exact hi.lo) 7
 obtain⟨d,g,rfl,hi⟩:=h.ex
 obtain⟨op,aB,size,obj,hI,lo,given,aA,off,n,data,index,ax⟩:=c
 obtain⟨da,dn,dc⟩:=d
 obtain⟨ga,gn,gc⟩:=g
 have P4:=ab hb0.size
 have X1:=Bx.new w (cC ⟨op,aB,size,obj,hI,lo,given,aA,off,n,data,index,ax⟩ ⟨da,dn,dc⟩ ⟨ga,gn,gc⟩) 44
 have hc:=X1.cell 10 rfl
 have HD:=ab hi.data
 clear X1 hok hi hb h hb0;go_enter Tryz.func177,Tryz.ntmps177
 go_wp2;go_ret;exact⟨_,_,_,rfl,.inl HD.out,ae _ _⟩
theorem BW (L:List Value)(c:Cl)(w0 w:World)(h:Cc w0 L c)(hb0:Below w0.heap.size w0 w)(hb:dM c=true):Calls Tryz.prog 177 #[.agg L.toArray,.int .i64 8] w λe w'=>∃a n c',e=.returned (.slice a n c')/\Lr w0 w' a n c' (jC c 8)/\Below w.heap.size w w':=by
 have hok:=dx hb (by obtain⟨d,g,e,hi⟩:=h.ex;exact hi.hi) (by obtain⟨d,g,e,hi⟩:=h.ex;exact hi.lo) 8
 obtain⟨d,g,rfl,hi⟩:=h.ex
 obtain⟨op,aB,size,obj,hI,lo,given,aA,off,n,data,index,ax⟩:=c
 obtain⟨da,dn,dc⟩:=d
 obtain⟨ga,gn,gc⟩:=g
 have P4:=ab hb0.size
 have X1:=Bx.new w (cC ⟨op,aB,size,obj,hI,lo,given,aA,off,n,data,index,ax⟩ ⟨da,dn,dc⟩ ⟨ga,gn,gc⟩) 44
 have hB:=gE.1 (hok.2.2.2.2.2.2.2.1 rfl)
 simp only at hB;obtain⟨m,hm⟩:∃m:Nat,index=(m:Int):=⟨index.toNat,by omega⟩
 subst hm;have ew:IntKind.u16.wrap (m:Int)=(m:Int):=by rw [IntKind.wrap_u16];omega
 have HM:Hid (m<65536):=by unfold Hid;omega
 have hc:=X1.cell 11 rfl
 clear X1 hok hi hb h hb0 hB;go_enter Tryz.func177,Tryz.ntmps177
 go_wp2_with (first|(go_at_call 164;refine (JN m HM.out _).mono ?_;rintro e w2 ⟨a2,c2,rfl,hown,hb2⟩))
 go_ret;exact⟨_,_,_,rfl,.inr (hown.mono (by have:=P4.out;simp;omega)),aa (ae _ _) hb2⟩
theorem yV (L:List Value)(c:Cl)(w0 w:World)(h:Cc w0 L c)(hb0:Below w0.heap.size w0 w)(hb:dM c=true):Calls Tryz.prog 177 #[.agg L.toArray,.int .i64 9] w λe w'=>∃a n c',e=.returned (.slice a n c')/\Lr w0 w' a n c' (jC c 9)/\Below w.heap.size w w':=by
 have hok:=dx hb (by obtain⟨d,g,e,hi⟩:=h.ex;exact hi.hi) (by obtain⟨d,g,e,hi⟩:=h.ex;exact hi.lo) 9
 obtain⟨d,g,rfl,hi⟩:=h.ex
 obtain⟨op,aB,size,obj,hI,lo,given,aA,off,n,data,index,ax⟩:=c
 obtain⟨da,dn,dc⟩:=d
 obtain⟨ga,gn,gc⟩:=g
 have P4:=ab hb0.size
 have X1:=Bx.new w (cC ⟨op,aB,size,obj,hI,lo,given,aA,off,n,data,index,ax⟩ ⟨da,dn,dc⟩ ⟨ga,gn,gc⟩) 44
 have hc:=X1.cell 12 rfl
 have H9:=ab (hok.2.2.2.2.2.2.2.2 rfl)
 have HR:Hid (∀o,RI (w.alloc o) ga gn gc ax):=λo=>(hi.ax.later hb0).later (ae _ _)
 clear X1 hok hi hb h hb0;go_enter Tryz.func177,Tryz.ntmps177
 go_wp2_with (first|(go_at_call 251;refine (pF ga gn gc ax _ (HR.out _) H9.out).mono ?_;rintro e w2 ⟨a2,n2,c2,rfl,hown,hb2⟩))
 go_ret;exact⟨_,_,_,rfl,.inr (hown.mono (by have:=P4.out;simp;omega)),aa (ae _ _) hb2⟩
theorem qI (p:Nat)(hp:p<10)(L:List Value)(c:Cl)(w0 w:World)(h:Cc w0 L c)(hb0:Below w0.heap.size w0 w)(hb:dM c=true):Calls Tryz.prog 177 #[.agg L.toArray,.int .i64 (p:Int)] w λe w'=>∃a n c',e=.returned (.slice a n c')/\Lr w0 w' a n c' (jC c p)/\Below w.heap.size w w':=by
 rcases (by omega:p=0\/p=1\/p=2\/p=3\/p=4\/p=5\/p=6\/p=7\/p=8\/p=9) with rfl|rfl|rfl|rfl|rfl|rfl|rfl|rfl|rfl|rfl
 ·exact Bh L c w0 w h hb0 hb
 ·exact Bb L c w0 w h hb0 hb
 ·exact AA L c w0 w h hb0 hb
 ·exact BS L c w0 w h hb0 hb
 ·exact AF L c w0 w h hb0 hb
 ·exact BI L c w0 w h hb0 hb
 ·exact Az L c w0 w h hb0 hb
 ·exact A5 L c w0 w h hb0 hb
 ·exact BW L c w0 w h hb0 hb
 ·exact yV L c w0 w h hb0 hb
def E3 (w:World)(L:List Value)(c:Cl)(ps:List Nat)(pa:Option Addr)(n:Nat)(l t:Value)(w':World):Prop :=
 ∃(i:Nat) (a:Option Addr) (cp:Nat) (rs:List R4),i<=n/\t=.int .i64 (i:Int)/\l=.slice a (2+i) cp/\OR w w' a (2+i) cp rs/\bS rs=cI c.op.toNat 1++cI c.aB.toNat 2++dG c (ps.take i)/\Bx w' w.heap.size L/\RP w' (w.heap.size+1) pa n ps/\Below w.heap.size w w'/\∀k,aJ a k->w.heap.size<k/\¬aJ pa k
theorem RP.Fa {S:Nat->Prop}{W w1:World}{base:Nat}{a:Option Addr}{n:Nat}{L:List Nat}(hb:ah S W w1)(h:RP W base a n L)(hS:∀k,aJ a k->¬S k):RP w1 base a n L :=
 ⟨h.len,λj hj=>by
  obtain⟨b,hb1,hb2,hc⟩:=h.cells j hj
  exact⟨b,hb1,hb2,by rw [World.cell?_of_block (w:=W) (hb.block b (World.block_lt_of_cell? _ _ hc) (hS b ⟨_,hb1,rfl⟩))];exact hc⟩⟩
theorem yf {c:Cl}(hb:dM c=true)(p:Nat):(jC c p).length<=1025:=by
 simp only [dM,Bool.and_eq_true,decide_eq_true_eq,uQ] at hb;unfold jC;repeat' split
 all_goals (try simp only [cT,List.length_append,nj,List.length_nil])
 all_goals omega
theorem rG {c:Cl}(hb:dM c=true):∀ps:List Nat,(dG c ps).length<=1025*ps.length
 | []=>by simp [dG]
 | p::ps=>by
  have:=yf hb p
  have:=rG hb ps
  simp only [dG,List.length_append,List.length_cons];omega
theorem rP (L:List Value)(c:Cl)(w:World)(h:Cc w L c)(hf:fm c=true) :
  Calls Tryz.prog 99 #[.agg L.toArray] w λe w'=>∃a n c',e=.returned (.slice a n c')/\Own w' w.heap.size a n c' (ly c)/\Below w.heap.size w w':=by
 have hf0:=hf
 simp only [fm,Bool.and_eq_true] at hf;obtain⟨⟨⟨hop,hin⟩,_⟩,_⟩:=hf
 have hop:=gE.1 hop
 have hby:0<=c.aB/\c.aB<=65535:=by
  have:=hin
  simp only [dM,Bool.and_eq_true] at this;exact gE.1 this.1.1.1.1.1.1.1.1
 obtain⟨o,ho⟩:∃o:Nat,c.op=(o:Int):=⟨c.op.toNat,by omega⟩
 obtain⟨b,hbb⟩:∃b:Nat,c.aB=(b:Int):=⟨c.aB.toNat,by omega⟩
 have eo:IntKind.u8.wrap (o:Int)=(o:Int):=by rw [IntKind.wrap_u8];omega
 have eb:IntKind.u16.wrap (b:Int)=(b:Int):=by rw [IntKind.wrap_u16];omega
 have Vr:Hid (o<256/\b<65536):=⟨by omega,by omega⟩
 have T1:Hid (c.op.toNat=o/\c.aB.toNat=b/\c.op=(o:Int)):=⟨by omega,by omega,ho⟩
 have hl0:L[0]?=some (.int .i64 (o:Int)):=by rw [<-ho];exact h.op
 have hl1:L[1]?=some (.int .i64 (b:Int)):=by rw [<-hbb];obtain⟨d,g,rfl,hi⟩:=h.ex;rfl
 have X0:=Bx.new w L 44
 have HX:Hid (Bx (w.alloc (Obj.cells L.toArray 44)).drew w.heap.size L):=X0.later (Below.refl _ _).drew
 have SU:Hid (∀W,Bx W w.heap.size L->W.cell? ⟨w.heap.size,0,none⟩=some (.int .i64 (o:Int))/\W.cell? ⟨w.heap.size,1,none⟩=some (.int .i64 (b:Int))):=λW hW=>⟨hW.cell 0 hl0,hW.cell 1 hl1⟩
 have PL:Hid (Below w.heap.size w (w.alloc (Obj.cells L.toArray 44)).drew):=(ae _ _).drew
 have S0:=SU.out _ HX.out
 have S4:=ab hin
 have HH:=ab h
 clear X0 hl0 hl1 h hin hop hby ho hbb;go_enter Tryz.func99,Tryz.ntmps99
 go_upto_region 1 with fail
 go_region_held3 (λw'=>(w'.cell? ⟨w.heap.size,0,none⟩=some (.int .i64 (o:Int))/\w'.cell? ⟨w.heap.size,1,none⟩=some (.int .i64 (b:Int)))) (first|exact S2|exact S1|exact S0|exact SU.out _ (Ry.out.later (ae _ _))) (first|(go_at_call 164;refine (JN b Vr.out.2 _).mono ?_;rintro e w2 ⟨a2,c2,rfl,hown2,hb2⟩;have PS:=ab (And.intro (hown2.mono PC.out.size) (QP.out.later hb2));have PB:=ab (aa PC.out hb2);have Ry:=ab (Qe.out.later hb2);have S2:=SU.out _ Ry.out;clear hown2 hb2)|(go_at_call 176;refine (p8 o Vr.out.1 _).mono ?_;rintro e w1 ⟨a1,c1,rfl,hown1,hb1⟩;have QP:=ab (hown1.mono PL.out.size);have PC:=ab (aa PL.out hb1);have Qe:=ab (HX.out.later hb1);have S1:=SU.out _ Qe.out;clear hown1 hb1))
 have Qp:Hid (Bx (w2.alloc (Obj.cells #[.slice a1 1 c1,.slice a2 2 c2] 38)) w.heap.size L):=Ry.out.later (ae _ _)
 have PE:Hid (Below w.heap.size w (w2.alloc (Obj.cells #[.slice a1 1 c1,.slice a2 2 c2] 38))):=aa PB.out (ae _ _)
 have Rg:Hid (OR w (w2.alloc (Obj.cells #[.slice a1 1 c1,.slice a2 2 c2] 38)) (some ⟨w2.heap.size,0,none⟩) 2 2 [(a1,1,c1,cI o 1),(a2,2,c2,cI b 2)]):=OR.two (.inr PS.out.2) (.inr PS.out.1) PB.out
 have QS:Hid (w.heap.size+1<=(w2.alloc (Obj.cells #[.slice a1 1 c1,.slice a2 2 c2] 38)).heap.size):=by unfold Hid;have:=PB.out.size;simp;omega
 have S3:=(SU.out _ Qp.out).1
 have Vi:=ab (World.block_lt_of_cell? _ _ S2.1)
 have RH:Hid (w2.heap.size<(w2.alloc (Obj.cells #[.slice a1 1 c1,.slice a2 2 c2] 38)).heap.size):=by unfold Hid;simp
 clear S0 S1 S2 QP PC Qe PS Ry HX eo eb SU PL;rename_i hHeld
 clear hHeld;have PV:Hid (w.heap.size<w2.heap.size):=by unfold Hid;exact Vi.out
 obtain⟨w3,hw3⟩:∃w3,w3=w2.alloc (Obj.cells #[.slice a1 1 c1,.slice a2 2 c2] 38):=⟨_,rfl⟩
 rw [<-hw3] at Qp PE Rg QS RH S3 ⊢
 clear hw3 PB;go_upto_region 3 with (first|(go_at_call 155;refine (ki (o:Int) _).mono ?_;rintro e w4 ⟨pa,n,cp,rfl,hrp,hn5,hb4,hpb4⟩))
 have VV:=ab hpb4
 clear hpb4;have R0:Hid (E3 w L c (bH c.op) pa n (.slice (some ⟨w2.heap.size,0,none⟩) 2 2) (.int .i64 0) w4):=by
  refine⟨0,_,2,_,by omega,rfl,rfl,Rg.out.later hb4,?_,Qp.out.later hb4,?_,aa PE.out hb4,λk ⟨x,hx,hk⟩=>?_⟩
  rotate_right
  ·cases hx
   simp only at hk;subst hk;refine⟨by have:=PV.out;omega,λ⟨y,hy,hk⟩=>?_⟩
   have:=VV.out _ ⟨y,hy,rfl⟩
   have:=RH.out
   omega
  ·rw [T1.out.1,T1.out.2.1];simp [bS,dG]
  ·rw [T1.out.2.2]
   exact⟨hrp.len,λj hj=>by obtain⟨x,h1,h2,h3⟩:=hrp.cells j hj;exact⟨x,h1,by have:=QS.out;omega,h3⟩⟩
 have HN:Hid ((bH c.op).length=n):=by unfold Hid;rw [T1.out.2.2];exact hrp.len
 clear hrp hb4 Rg Qp PE QS S3 VV;go_loopw [3,19] (E3 w L c (bH c.op) pa n) (λ_ t _=>n - (intOf t).toNat)
 case atStart=>exact R0.out
 case round =>
  clear R0;obtain⟨i,x,cx,rs,hi,rfl,rfl,hor,hcat,hbx,hrp,hbw,hap⟩:=hrel
  have ei:IntKind.i64.wrap ((i:Int)+1)=(i:Int)+1:=by rw [IntKind.wrap_i64];omega
  by_cases hlt:i<n
  ·have hdi:decide ((i:Int)<(n:Int))=true:=by simp;omega
   have hiP:i<(bH c.op).length:=by have:=HN.out;omega
   obtain⟨pb,rfl,hpb,hpc⟩:=hrp.cells i hiP
   have HT:Hid _:=List.take_succ_eq_append_getElem hiP
   have hp10:Hid ((bH c.op)[i]<10):=(qz c.op).1 _ (List.getElem_mem hiP)
   generalize (bH c.op)[i]=p at hpc HT hp10
   have P9:=ab (m7 hbx.range HH.out.len)
   have UR:=ab hor
   have Sh:=ab hcat
   have V0:=ab hbx
   have UX:=ab hrp
   have Ql:=ab hbw
   have RX:=ab hap
   have Wc:=ab hpc
   clear hor hcat hbx hrp hbw hap;go_upto_region 5 with fail
   go_wp2_with (first|((with_reducible refine aV P9.out ?_ ?_);(· rfl))|(go_at_call 177;refine (qI p hp10.out L c w _ HH.out Ql.out S4.out).mono ?_;rintro e w5 ⟨a5,n5,c5,rfl,hlr,hb5⟩;obtain⟨a6,c6,w6,hrun,hor6,hbw6,hbut6,hon6⟩:=lX (UR.out.later hb5) hlr (aa Ql.out hb5) (by omega);have PD:=ab hrun;have U0:=ab hor6;have P7:=ab hbw6;have WR:=ab ((V0.out.later hb5).but hbut6 (λhk=>by have:=(RX.out _ hk).1;omega));have U8:=ab ((UX.out.later hb5).Fa hbut6 (λk hk hk2=>(RX.out k hk2).2 hk));have UM:=ab (λk hk=>(hon6 k hk).elim (λh=>RX.out k h) (λh=>(⟨by have:=V0.out.lt (by rw [HH.out.len];omega);have:=hb5.size;omega,λhk2=>by obtain⟨y,hy1,hy2⟩:=hk2;cases hy1;have q1:pb<_:=World.block_lt_of_cell? _ _ Wc.out;have q2:=hb5.size;have q3:pb=k:=hy2;omega⟩:w.heap.size<k/\¬aJ (some ⟨pb,0,none⟩) k)));clear hrun hor6 hbw6 hbut6 hlr hb5 hon6)|(at_builtin;refine al rfl _ _ 78 rfl _ _ rfl rfl _ w6 PD.out ?_))
   go_roundw
   case rel=>exact⟨i+1,a6,c6,_,by omega,by go_num,rfl,U0.out,by rw [eL,Sh.out,HT.out,pX];simp [bS,dG],WR.out,U8.out,P7.out,UM.out⟩
   case measure=>simp [intOf];omega
  ·obtain rfl:i=n:=by omega
   have HX:Hid (bS rs=ly c):=by
    unfold Hid ly;rw [hcat,List.take_of_length_le (by have:=HN.out;omega)]
   have hle:(bS rs).length<=140737488355328:=by
    rw [HX.out];unfold ly;have:=rG S4.out (bH c.op)
    have:=HN.out
    simp only [List.length_append,cT];omega
   have HJ:=ab (uK hor hbw (by omega) (by omega) hle)
   have Ql:=ab hbw
   clear hor hbw hcat hle hbx hrp hap;go_wp2_with (first|(go_at_call 165;refine HJ.out.mono ?_;rintro e w2 ⟨a2,n2,c2,rfl,hown2,hb2⟩))
   go_ret;exact⟨_,_,_,rfl,by rw [<-HX.out];exact hown2.mono Ql.out.size,aa Ql.out hb2⟩
theorem qH (L:List Value)(c:Cl)(w:World)(h:Cc w L c)(hf:fm c=true) :
  Calls Tryz.prog 46 #[.agg L.toArray] w λe w'=>∃a n c',e=.returned (.tuple #[.slice a n c',.int .i64 0])/\Own w' w.heap.size a n c' (ly c)/\Below w.heap.size w w':=by
 have X1:Hid (Bx (w.alloc (Obj.cells L.toArray 44)) w.heap.size L):=Bx.new w L 44
 have QH:=ab (m7 X1.out.range h.len)
 have HL:=ab h.len
 have HC:Hid (Cc (w.alloc (Obj.cells L.toArray 44)) L c):=h.later (ae _ _)
 clear h;go_enter Tryz.func46,Tryz.ntmps46
 go_wp2_with (first|((with_reducible refine aV Qy.out ?_ ?_);(· rfl))|((with_reducible refine aV QH.out ?_ ?_);(· rfl))|(go_at_call 87;refine (ld L c _ HC.out).mono ?_;rintro e w2 ⟨rfl,hb2⟩;rw [hf];have Qy:=ab (m7 (X1.out.later hb2).range HL.out);have P1:=ab (HC.out.later hb2);have PB:=ab hb2;clear hb2)|(go_at_call 99;refine (rP L c _ P1.out hf).mono ?_;rintro e w3 ⟨a,n,c',rfl,hown,hb3⟩))
 exact bodyPost_ret (v:=.tuple #[.slice a n c',.int .i64 0]) (by simp [results,Tryz.results46,go_sem]) rfl ⟨_,_,_,rfl,hown.mono (by have:=PB.out.size;simp at this;omega),aa (aa (ae _ _) PB.out) hb3⟩
theorem xm (L:List Value)(c:Cl)(w:World)(h:Cc w L c)(hf:fm c=false) :
  Calls Tryz.prog 46 #[.agg L.toArray] w λe w'=>e=.returned (.tuple #[.slice none 0 0,.int .i64 1])/\Below w.heap.size w w':=by
 have X1:Hid (Bx (w.alloc (Obj.cells L.toArray 44)) w.heap.size L):=Bx.new w L 44
 have QH:=ab (m7 X1.out.range h.len)
 have HC:Hid (Cc (w.alloc (Obj.cells L.toArray 44)) L c):=h.later (ae _ _)
 clear h;go_enter Tryz.func46,Tryz.ntmps46
 go_wp2_with (first|((with_reducible refine aV QH.out ?_ ?_);(· rfl))|(go_at_call 87;refine (ld L c _ HC.out).mono ?_;rintro e w2 ⟨rfl,hb2⟩;rw [hf];have PB:=ab hb2;clear hb2))
 exact bodyPost_ret (v:=.tuple #[.slice none 0 0,.int .i64 1]) (by simp [results,Tryz.results46,go_sem]) rfl ⟨rfl,aa (ae _ _) PB.out⟩
end Go.Proofs.YtffmodpgddecnaaGreatDoor.R
