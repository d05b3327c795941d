import Derived.Test.YtffmodpgddecnaaGreatDoorZ17
set_option linter.unusedVariables false
set_option linter.unusedSimpArgs false
set_option maxRecDepth 100000
set_option maxHeartbeats 4000000
namespace Go.Proofs.YtffmodpgddecnaaGreatDoor.R
open Go.RowKit
theorem uN (w:World):Calls Tryz.prog 239 #[] w λe w'=>e=.returned (.int .i64 2)/\w'=w:=by
 go_enter Tryz.func239,Tryz.ntmps239
 go_wp2;go_loop [1,2] (λn r=>∃k:Nat,k<=2/\n=.int .i64 k/\r=.int .u64 ((65535 / 256 ^ k:Nat):Int)) (λn _=>2 - (intOf n).toNat)
 case atStart=>exact⟨0,by omega,rfl,rfl⟩
 case round =>
  obtain⟨k,hk,rfl,rfl⟩:=hrel
  rcases (by omega:k=0\/k=1\/k=2) with rfl|rfl|rfl
  ·go_wp2
   exact⟨⟨1,by omega,by go_num,by go_num⟩,by simp [intOf]⟩
  ·go_wp2
   exact⟨⟨2,by omega,by go_num,by go_num⟩,by simp [intOf]⟩
  ·go_wp2
   go_ret;exact⟨rfl,rfl⟩
theorem ey (n more:Nat)(hr:n+more<=140737488355328)(u:World):(Instr.makeSlice 38 (.int .i64 (n:Int)) (.int .i64 ((n:Int)+(more:Int)))).run Tryz.prog u =
  .ok (.slice (some ⟨u.heap.size,0,none⟩) n (n+more)) (u.alloc (.cells (madeCells #[.int .u8 0] (n+more)) 5)):=by
 obtain⟨i0,hi,hz0,hz1,hz2⟩:=info_parts jr
 have h:=run_make (P:=Tryz.prog) u 38 5 i0 (.int .u8 0) Tryz.underlying38 hi hz0 .i64 .i64 (n:Int) ((n:Int)+(more:Int)) (by omega) (by omega) (by rw [hz2];omega) (by omega)
 have e:((n:Int)+(more:Int)).toNat=n+more:=by omega
 rw [e] at h;simpa [hz1,Value.cells] using h
theorem BV (w:World)(a:Option Addr)(n cap more:Nat)(L:List Nat)(h:Row w a n cap L)(hr:n+more<=140737488355328) :
  ∃v' w',(Builtin.copy_ #[38,38] 3 #[.slice (some ⟨w.heap.size,0,none⟩) n (n+more),.slice a n cap]).run Tryz.prog (w.alloc (.cells (madeCells #[.int .u8 0] (n+more)) 5))=.ok v' w' /\
   Own w' w.heap.size (some ⟨w.heap.size,0,none⟩) n (n+more) L/\Below w.heap.size w w':=by
 have hh:=heap_alloc_new w (.cells (madeCells #[.int .u8 0] (n+more)) 5)
 have hsz:(madeCells #[Value.int .u8 0] (n+more)).size=n+more:=by simp [madeCells]
 have hbase:Below w.heap.size w (w.alloc (.cells (madeCells #[.int .u8 0] (n+more)) 5)):=ae _ _
 cases a with
 | none =>
  obtain⟨rfl,rfl⟩:=h.none_ rfl
  have hL:L=[]:=List.eq_nil_of_length_eq_zero h.len
  subst hL;refine⟨_,_,run_copy_nil (P:=Tryz.prog) _ 38 38 3 5 _ _ _ Tryz.underlying38 (by kernel_rfl),⟨⟨rfl,.inr ⟨_,_,_,rfl,Nat.le_refl _,hh,by omega,by unfold maxLen;omega,by rw [hsz,Nat.mul_one],by simp [bG]⟩⟩,h.small⟩,hbase⟩
 | some x =>
  have hl:(bG L).length=n:=by rw [aM,h.len]
  have hr:=run_copy_row (P:=Tryz.prog) (w.alloc (.cells (madeCells #[.int .u8 0] (n+more)) 5)) 38 38 3 5 w.heap.size 0 n (n+more) x n cap _ 5 (bG L) Tryz.underlying38 (by kernel_rfl) hh (by rw [hl];simp) (λj v hj=>cell_later (ae _ _) (h.cells x rfl j v hj)) (by rw [hl,hsz];omega) (fH L)
  refine⟨_,_,hr,⟨⟨by rw [hl,Nat.mul_one],.inr ⟨_,_,_,rfl,Nat.le_refl _,setRow_heap _ _ _ _ _ _ hh,by omega,by unfold maxLen;omega,?_,?_⟩⟩,h.small⟩,?_⟩
  ·simp [hl,hsz]
  ·simp only [Nat.mul_one,List.take_zero,List.nil_append,Nat.zero_add]
   rw [List.take_left' hl]
  ·refine hbase.trans ⟨rfl,rfl,rfl,by simp,λk hk=>?_⟩
   exact setRow_other _ _ _ _ (by omega)
theorem fX (a:Option Addr)(n cap:Nat)(more:Nat)(L:List Nat)(w:World)(h:Row w a n cap L)(hr:n+more<=140737488355328) :
  Calls Tryz.prog 152 #[.slice a n cap,.int .i64 (more:Int)] w λe w'=>∃g,e=.returned (.slice (some ⟨g,0,none⟩) n (n+more))/\Own w' w.heap.size (some ⟨g,0,none⟩) n (n+more) L/\Below w.heap.size w w':=by
 have hmk:=ey n more hr
 have ew:IntKind.i64.wrap ((n:Int)+(more:Int))=(n:Int)+(more:Int):=by rw [IntKind.wrap_i64];omega
 obtain⟨v',w2,hrun,hown,hb⟩:=BV w a n cap more L h hr
 clear h hr;go_enter Tryz.func152,Tryz.ntmps152
 go_wp2;go_ret;exact⟨_,rfl,hown,hb⟩
end Go.Proofs.YtffmodpgddecnaaGreatDoor.R
namespace Go.Proofs.YtffmodpgddecnaaGreatDoor.R
open Go.RowKit
theorem zP (w:World):Calls Tryz.prog 246 #[] w λe w'=>e=.returned (.int .i64 1)/\w'=w:=by
 go_enter Tryz.func246,Tryz.ntmps246
 go_wp2;go_loop [1,2] (λn r=>∃k:Nat,k<=1/\n=.int .i64 k/\r=.int .u64 ((255 / 256 ^ k:Nat):Int)) (λn _=>1 - (intOf n).toNat)
 case atStart=>exact⟨0,by omega,rfl,rfl⟩
 case round =>
  obtain⟨k,hk,rfl,rfl⟩:=hrel
  rcases (by omega:k=0\/k=1) with rfl|rfl
  ·go_wp2
   exact⟨⟨1,by omega,by go_num,by go_num⟩,by simp [intOf]⟩
  ·go_wp2
   go_ret;exact⟨rfl,rfl⟩
theorem uO (w:World):Calls Tryz.prog 359 #[] w λe w'=>e=.returned (.int .i64 4)/\w'=w:=by
 go_enter Tryz.func359,Tryz.ntmps359
 go_wp2;go_loop [1,2] (λn r=>∃k:Nat,k<=4/\n=.int .i64 k/\r=.int .u64 ((4294967295 / 256 ^ k:Nat):Int)) (λn _=>4 - (intOf n).toNat)
 case atStart=>exact⟨0,by omega,rfl,rfl⟩
 case round =>
  obtain⟨k,hk,rfl,rfl⟩:=hrel
  rcases (by omega:k=0\/k=1\/k=2\/k=3\/k=4) with rfl|rfl|rfl|rfl|rfl
  ·go_wp2
   exact⟨⟨1,by omega,by go_num,by go_num⟩,by simp [intOf]⟩
  ·go_wp2
   exact⟨⟨2,by omega,by go_num,by go_num⟩,by simp [intOf]⟩
  ·go_wp2
   exact⟨⟨3,by omega,by go_num,by go_num⟩,by simp [intOf]⟩
  ·go_wp2
   exact⟨⟨4,by omega,by go_num,by go_num⟩,by simp [intOf]⟩
  ·go_wp2
   go_ret;exact⟨rfl,rfl⟩
theorem vB (w:World):Calls Tryz.prog 310 #[] w λe w'=>e=.returned (.int .i64 8)/\w'=w:=by
 go_enter Tryz.func310,Tryz.ntmps310
 go_wp2;go_loop [1,2] (λn r=>∃k:Nat,k<=8/\n=.int .i64 k/\r=.int .u64 ((18446744073709551615 / 256 ^ k:Nat):Int)) (λn _=>8 - (intOf n).toNat)
 case atStart=>exact⟨0,by omega,rfl,rfl⟩
 case round =>
  obtain⟨k,hk,rfl,rfl⟩:=hrel
  rcases (by omega:k=0\/k=1\/k=2\/k=3\/k=4\/k=5\/k=6\/k=7\/k=8) with rfl|rfl|rfl|rfl|rfl|rfl|rfl|rfl|rfl
  ·go_wp2
   exact⟨⟨1,by omega,by go_num,by go_num⟩,by simp [intOf]⟩
  ·go_wp2
   exact⟨⟨2,by omega,by go_num,by go_num⟩,by simp [intOf]⟩
  ·go_wp2
   exact⟨⟨3,by omega,by go_num,by go_num⟩,by simp [intOf]⟩
  ·go_wp2
   exact⟨⟨4,by omega,by go_num,by go_num⟩,by simp [intOf]⟩
  ·go_wp2
   exact⟨⟨5,by omega,by go_num,by go_num⟩,by simp [intOf]⟩
  ·go_wp2
   exact⟨⟨6,by omega,by go_num,by go_num⟩,by simp [intOf]⟩
  ·go_wp2
   exact⟨⟨7,by omega,by go_num,by go_num⟩,by simp [intOf]⟩
  ·go_wp2
   exact⟨⟨8,by omega,by go_num,by go_num⟩,by simp [intOf]⟩
  ·go_wp2
   go_ret;exact⟨rfl,rfl⟩
def fZ (w:World)(a:Option Addr)(base n:Nat)(L:List Nat)(v k:Nat)(o r t:Value)(w':World):Prop :=
 ∃(i:Nat) (a':Option Addr) (cap':Nat),i<=k/\t=.int .i64 (i:Int)/\r=.int .u64 ((v / 256 ^ i:Nat):Int)/\o=.slice a' (n+i) cap'/\Own w' base a' (n+i) cap' (L++cI v i)/\Gr a a' w w'
theorem kL (v i:Nat):IntKind.u8.wrap ((v / 256 ^ i:Nat):Int)=((v / 256 ^ i%256:Nat):Int):=by rw [IntKind.wrap_u8];omega
theorem kM (v i:Nat):(((v / 256 ^ i:Nat):Int) / 256)=((v / 256 ^ (i+1):Nat):Int):=by
 rw [Nat.pow_succ,<-Nat.div_div_eq_div_mul];omega
theorem eG {w:World}{base n cap:Nat}{a:Option Addr}{L:List Nat}{b:Nat}(h:Own w base a n cap L)(hb:base<=w.heap.size)(hr:n+1<=140737488355328)(hb8:b<256) :
  ∃a' cap' w',(Builtin.append_ #[38,38] 38 #[.slice a n cap,.slice (some ⟨w.heap.size,0,none⟩) 1 1]).run Tryz.prog (w.alloc (Obj.cells #[Value.int .u8 (b:Int)] 5))=.ok (.slice a' (n+1) cap') w'/\Own w' base a' (n+1) cap' (L++[b])/\Gr a a' w w':=by
 obtain⟨a',cap',w',h1,h2,h4⟩:=kT (h.alloc (Obj.cells #[Value.int .u8 (b:Int)] 5)) (Row.one w b hb8) (by simp;omega) hr
 exact⟨a',cap',w',h1,h2,h4.pre (ae _ _)⟩
theorem ig (a:Option Addr)(n cap:Nat)(L:List Nat)(v:Nat)(w:World)(base:Nat)(hv:v<256)(h:Own w base a n cap L)(hb:base<=w.heap.size)(hr:n+1<=140737488355328) :
  Calls Tryz.prog 245 #[.slice a n cap,.int .u8 (v:Int)] w λe w'=>∃a' cap',e=.returned (.slice a' (n+1) cap')/\Own w' base a' (n+1) cap' (L++cI v 1)/\Gr a a' w w':=by
 have HR:Hid (n+1<=140737488355328):=hr
 have HV:Hid (fZ w a base n L v 1 (.slice a n cap) (.int .u64 (v:Int)) (.int .i64 0) w):=⟨0,a,cap,by omega,rfl,by simp,rfl,by simpa [iT] using h,Gr.refl _ _⟩
 clear h hr;go_enter Tryz.func245,Tryz.ntmps245
 go_wp2_with (first|(go_at_call 246;refine (zP _).mono ?_;rintro e w1 ⟨rfl,rfl⟩))
 rename World=>w
 go_loopw [0,5,9] (fZ w a base n L v 1) (λ_ _ t _=>1 - (intOf t).toNat)
 case atStart=>exact HV.out
 case round =>
  clear HV;obtain⟨i,a',cap',hi,rfl,rfl,rfl,hown,hB⟩:=hrel
  have hbw:base<=wr.heap.size:=Nat.le_trans hb hB.but.size
  by_cases hlt:i<1
  ·have hd:decide ((i:Int)<1)=true:=by simp;omega
   have e1:=kL v i
   have e2:=kM v i
   obtain⟨a2,c2,w2,hrun,hown2,hB2⟩:=eG (b:=v / 256 ^ i%256) hown hbw (by have:=HR.out;omega) (by omega)
   have PD:Hid _:=hrun
   have HO:Hid (Own w2 base a2 (n+(i+1)) c2 (L++cI v (i+1))):=by rw [iR,<-List.append_assoc];exact hown2
   have HB:Hid (Gr a a2 w w2):=hB.trans hB2
   clear hrun hown hown2 hB hB2;go_wp2_with (first|(at_builtin;refine al rfl _ _ 38 rfl _ _ rfl rfl _ w2 PD.out ?_))
   go_roundw
   case rel=>exact⟨i+1,a2,c2,by omega,by go_num,by rw [<-e2];simp,rfl,HO.out,HB.out⟩
   case measure=>simp [intOf];omega
  ·obtain rfl:i=1:=by omega
   go_wp2;go_ret;exact⟨a',cap',rfl,hown,hB⟩
theorem I2 (a:Option Addr)(n cap:Nat)(L:List Nat)(v:Nat)(w:World)(base:Nat)(hv:v<65536)(h:Own w base a n cap L)(hb:base<=w.heap.size)(hr:n+2<=140737488355328) :
  Calls Tryz.prog 238 #[.slice a n cap,.int .u16 (v:Int)] w λe w'=>∃a' cap',e=.returned (.slice a' (n+2) cap')/\Own w' base a' (n+2) cap' (L++cI v 2)/\Gr a a' w w':=by
 have HR:Hid (n+2<=140737488355328):=hr
 have HV:Hid (fZ w a base n L v 2 (.slice a n cap) (.int .u64 (v:Int)) (.int .i64 0) w):=⟨0,a,cap,by omega,rfl,by simp,rfl,by simpa [iT] using h,Gr.refl _ _⟩
 clear h hr;go_enter Tryz.func238,Tryz.ntmps238
 go_wp2_with (first|(go_at_call 239;refine (uN _).mono ?_;rintro e w1 ⟨rfl,rfl⟩))
 rename World=>w
 go_loopw [0,5,9] (fZ w a base n L v 2) (λ_ _ t _=>2 - (intOf t).toNat)
 case atStart=>exact HV.out
 case round =>
  clear HV;obtain⟨i,a',cap',hi,rfl,rfl,rfl,hown,hB⟩:=hrel
  have hbw:base<=wr.heap.size:=Nat.le_trans hb hB.but.size
  by_cases hlt:i<2
  ·have hd:decide ((i:Int)<2)=true:=by simp;omega
   have e1:=kL v i
   have e2:=kM v i
   obtain⟨a2,c2,w2,hrun,hown2,hB2⟩:=eG (b:=v / 256 ^ i%256) hown hbw (by have:=HR.out;omega) (by omega)
   have PD:Hid _:=hrun
   have HO:Hid (Own w2 base a2 (n+(i+1)) c2 (L++cI v (i+1))):=by rw [iR,<-List.append_assoc];exact hown2
   have HB:Hid (Gr a a2 w w2):=hB.trans hB2
   clear hrun hown hown2 hB hB2;go_wp2_with (first|(at_builtin;refine al rfl _ _ 38 rfl _ _ rfl rfl _ w2 PD.out ?_))
   go_roundw
   case rel=>exact⟨i+1,a2,c2,by omega,by go_num,by rw [<-e2];simp,rfl,HO.out,HB.out⟩
   case measure=>simp [intOf];omega
  ·obtain rfl:i=2:=by omega
   go_wp2;go_ret;exact⟨a',cap',rfl,hown,hB⟩
theorem IX (a:Option Addr)(n cap:Nat)(L:List Nat)(v:Nat)(w:World)(base:Nat)(hv:v<4294967296)(h:Own w base a n cap L)(hb:base<=w.heap.size)(hr:n+4<=140737488355328) :
  Calls Tryz.prog 358 #[.slice a n cap,.int .u32 (v:Int)] w λe w'=>∃a' cap',e=.returned (.slice a' (n+4) cap')/\Own w' base a' (n+4) cap' (L++cI v 4)/\Gr a a' w w':=by
 have HR:Hid (n+4<=140737488355328):=hr
 have HV:Hid (fZ w a base n L v 4 (.slice a n cap) (.int .u64 (v:Int)) (.int .i64 0) w):=⟨0,a,cap,by omega,rfl,by simp,rfl,by simpa [iT] using h,Gr.refl _ _⟩
 clear h hr;go_enter Tryz.func358,Tryz.ntmps358
 go_wp2_with (first|(go_at_call 359;refine (uO _).mono ?_;rintro e w1 ⟨rfl,rfl⟩))
 rename World=>w
 go_loopw [0,5,9] (fZ w a base n L v 4) (λ_ _ t _=>4 - (intOf t).toNat)
 case atStart=>exact HV.out
 case round =>
  clear HV;obtain⟨i,a',cap',hi,rfl,rfl,rfl,hown,hB⟩:=hrel
  have hbw:base<=wr.heap.size:=Nat.le_trans hb hB.but.size
  by_cases hlt:i<4
  ·have hd:decide ((i:Int)<4)=true:=by simp;omega
   have e1:=kL v i
   have e2:=kM v i
   obtain⟨a2,c2,w2,hrun,hown2,hB2⟩:=eG (b:=v / 256 ^ i%256) hown hbw (by have:=HR.out;omega) (by omega)
   have PD:Hid _:=hrun
   have HO:Hid (Own w2 base a2 (n+(i+1)) c2 (L++cI v (i+1))):=by rw [iR,<-List.append_assoc];exact hown2
   have HB:Hid (Gr a a2 w w2):=hB.trans hB2
   clear hrun hown hown2 hB hB2;go_wp2_with (first|(at_builtin;refine al rfl _ _ 38 rfl _ _ rfl rfl _ w2 PD.out ?_))
   go_roundw
   case rel=>exact⟨i+1,a2,c2,by omega,by go_num,by rw [<-e2];simp,rfl,HO.out,HB.out⟩
   case measure=>simp [intOf];omega
  ·obtain rfl:i=4:=by omega
   go_wp2;go_ret;exact⟨a',cap',rfl,hown,hB⟩
theorem Jt (a:Option Addr)(n cap:Nat)(L:List Nat)(v:Nat)(w:World)(base:Nat)(hv:v<18446744073709551616)(h:Own w base a n cap L)(hb:base<=w.heap.size)(hr:n+8<=140737488355328) :
  Calls Tryz.prog 305 #[.slice a n cap,.int .u64 (v:Int)] w λe w'=>∃a' cap',e=.returned (.slice a' (n+8) cap')/\Own w' base a' (n+8) cap' (L++cI v 8)/\Gr a a' w w':=by
 have HR:Hid (n+8<=140737488355328):=hr
 have HV:Hid (fZ w a base n L v 8 (.slice a n cap) (.int .u64 (v:Int)) (.int .i64 0) w):=⟨0,a,cap,by omega,rfl,by simp,rfl,by simpa [iT] using h,Gr.refl _ _⟩
 clear h hr;go_enter Tryz.func305,Tryz.ntmps305
 go_wp2_with (first|(go_at_call 310;refine (vB _).mono ?_;rintro e w1 ⟨rfl,rfl⟩))
 rename World=>w
 go_loopw [0,5,8] (fZ w a base n L v 8) (λ_ _ t _=>8 - (intOf t).toNat)
 case atStart=>exact HV.out
 case round =>
  clear HV;obtain⟨i,a',cap',hi,rfl,rfl,rfl,hown,hB⟩:=hrel
  have hbw:base<=wr.heap.size:=Nat.le_trans hb hB.but.size
  by_cases hlt:i<8
  ·have hd:decide ((i:Int)<8)=true:=by simp;omega
   have e1:=kL v i
   have e2:=kM v i
   obtain⟨a2,c2,w2,hrun,hown2,hB2⟩:=eG (b:=v / 256 ^ i%256) hown hbw (by have:=HR.out;omega) (by omega)
   have PD:Hid _:=hrun
   have HO:Hid (Own w2 base a2 (n+(i+1)) c2 (L++cI v (i+1))):=by rw [iR,<-List.append_assoc];exact hown2
   have HB:Hid (Gr a a2 w w2):=hB.trans hB2
   clear hrun hown hown2 hB hB2;go_wp2_with (first|(at_builtin;refine al rfl _ _ 38 rfl _ _ rfl rfl _ w2 PD.out ?_))
   go_roundw
   case rel=>exact⟨i+1,a2,c2,by omega,by go_num,by rw [<-e2];simp,rfl,HO.out,HB.out⟩
   case measure=>simp [intOf];omega
  ·obtain rfl:i=8:=by omega
   go_wp2;go_ret;exact⟨a',cap',rfl,hown,hB⟩
theorem J1 (a:Option Addr)(n cap:Nat)(L:List Nat)(v:Nat)(w:World)(hv:v<256)(h:Row w a n cap L)(hr:n+1<=140737488355328) :
  Calls Tryz.prog 176 #[.slice a n cap,.int .u8 (v:Int)] w λe w'=>∃a' cap',e=.returned (.slice a' (n+1) cap')/\Own w' w.heap.size a' (n+1) cap' (L++cI v 1)/\Below w.heap.size w w':=by
 have HR:Hid (n+1<=140737488355328):=hr
 clear hr;go_enter Tryz.func176,Tryz.ntmps176
 go_wp2_with (first|(go_at_call 246;refine (zP _).mono ?_;rintro e w1 ⟨rfl,rfl⟩)|(go_at_call 152;refine (fX a n cap 1 L _ h HR.out).mono ?_;rintro e w2 ⟨g,rfl,hown,hb⟩)|(go_at_call 245;refine (ig _ _ _ L v _ _ hv hown hb.size HR.out).mono ?_;rintro e w3 ⟨a3,c3,rfl,hown3,hb3⟩))
 go_ret;exact⟨a3,c3,rfl,hown3,hb.trans (Gr.below hown hb3 hb.size)⟩
theorem IJ (a:Option Addr)(n cap:Nat)(L:List Nat)(v:Nat)(w:World)(hv:v<65536)(h:Row w a n cap L)(hr:n+2<=140737488355328) :
  Calls Tryz.prog 164 #[.slice a n cap,.int .u16 (v:Int)] w λe w'=>∃a' cap',e=.returned (.slice a' (n+2) cap')/\Own w' w.heap.size a' (n+2) cap' (L++cI v 2)/\Below w.heap.size w w':=by
 have HR:Hid (n+2<=140737488355328):=hr
 clear hr;go_enter Tryz.func164,Tryz.ntmps164
 go_wp2_with (first|(go_at_call 239;refine (uN _).mono ?_;rintro e w1 ⟨rfl,rfl⟩)|(go_at_call 152;refine (fX a n cap 2 L _ h HR.out).mono ?_;rintro e w2 ⟨g,rfl,hown,hb⟩)|(go_at_call 238;refine (I2 _ _ _ L v _ _ hv hown hb.size HR.out).mono ?_;rintro e w3 ⟨a3,c3,rfl,hown3,hb3⟩))
 go_ret;exact⟨a3,c3,rfl,hown3,hb.trans (Gr.below hown hb3 hb.size)⟩
theorem Jc (a:Option Addr)(n cap:Nat)(L:List Nat)(v:Nat)(w:World)(hv:v<4294967296)(h:Row w a n cap L)(hr:n+4<=140737488355328) :
  Calls Tryz.prog 309 #[.slice a n cap,.int .u32 (v:Int)] w λe w'=>∃a' cap',e=.returned (.slice a' (n+4) cap')/\Own w' w.heap.size a' (n+4) cap' (L++cI v 4)/\Below w.heap.size w w':=by
 have HR:Hid (n+4<=140737488355328):=hr
 clear hr;go_enter Tryz.func309,Tryz.ntmps309
 go_wp2_with (first|(go_at_call 359;refine (uO _).mono ?_;rintro e w1 ⟨rfl,rfl⟩)|(go_at_call 152;refine (fX a n cap 4 L _ h HR.out).mono ?_;rintro e w2 ⟨g,rfl,hown,hb⟩)|(go_at_call 358;refine (IX _ _ _ L v _ _ hv hown hb.size HR.out).mono ?_;rintro e w3 ⟨a3,c3,rfl,hown3,hb3⟩))
 go_ret;exact⟨a3,c3,rfl,hown3,hb.trans (Gr.below hown hb3 hb.size)⟩
theorem IG (a:Option Addr)(n cap:Nat)(L:List Nat)(v:Nat)(w:World)(hv:v<18446744073709551616)(h:Row w a n cap L)(hr:n+8<=140737488355328) :
  Calls Tryz.prog 248 #[.slice a n cap,.int .u64 (v:Int)] w λe w'=>∃a' cap',e=.returned (.slice a' (n+8) cap')/\Own w' w.heap.size a' (n+8) cap' (L++cI v 8)/\Below w.heap.size w w':=by
 have HR:Hid (n+8<=140737488355328):=hr
 clear hr;go_enter Tryz.func248,Tryz.ntmps248
 go_wp2_with (first|(go_at_call 310;refine (vB _).mono ?_;rintro e w1 ⟨rfl,rfl⟩)|(go_at_call 152;refine (fX a n cap 8 L _ h HR.out).mono ?_;rintro e w2 ⟨g,rfl,hown,hb⟩)|(go_at_call 305;refine (Jt _ _ _ L v _ _ hv hown hb.size HR.out).mono ?_;rintro e w3 ⟨a3,c3,rfl,hown3,hb3⟩))
 go_ret;exact⟨a3,c3,rfl,hown3,hb.trans (Gr.below hown hb3 hb.size)⟩
end Go.Proofs.YtffmodpgddecnaaGreatDoor.R
namespace Go.Proofs.YtffmodpgddecnaaGreatDoor.R
open Go.RowKit
end Go.Proofs.YtffmodpgddecnaaGreatDoor.R
namespace Go.Proofs.YtffmodpgddecnaaGreatDoor.R
open Go.RowKit
end Go.Proofs.YtffmodpgddecnaaGreatDoor.R
namespace Go.Proofs.YtffmodpgddecnaaGreatDoor.R
open Go.RowKit
end Go.Proofs.YtffmodpgddecnaaGreatDoor.R
namespace Go.Proofs.YtffmodpgddecnaaGreatDoor.R
open Go.RowKit
end Go.Proofs.YtffmodpgddecnaaGreatDoor.R
namespace Go.Proofs.YtffmodpgddecnaaGreatDoor.R
open Go.RowKit
abbrev R4:=Option Addr×Nat×Nat×List Nat
def sv (r:R4):Value:=.slice r.1 r.2.1 r.2.2.1
def bS:List R4->List Nat
 | []=>[]
 | r::rs=>r.2.2.2++bS rs
theorem eL (rs qs:List R4):bS (rs++qs)=bS rs++bS qs:=by
 induction rs with
 | nil=>rfl
 | cons r rs ih=>simp [bS,ih]
theorem nh (rs:List R4)(i:Nat)(h:i<rs.length):bS (rs.take (i+1))=bS (rs.take i)++rs[i].2.2.2:=by
 rw [List.take_succ_eq_append_getElem h,eL];simp [bS]
theorem iV (rs:List R4)(i:Nat):(bS (rs.take i)).length<=(bS rs).length:=by
 have:bS rs=bS (rs.take i)++bS (rs.drop i):=by rw [<-eL,List.take_append_drop]
 rw [this,List.length_append];omega
def FL (rs:List R4)(z t:Value):Prop:=∃i:Nat,i<=rs.length/\t=.int .i64 (i:Int)/\z=.int .i64 ((bS (rs.take i)).length:Int)
def FD (w:World)(rs:List R4)(o t:Value)(w':World):Prop:=∃(i:Nat) (a:Option Addr) (n cap:Nat),i<=rs.length/\t=.int .i64 (i:Int)/\o=.slice a n cap/\Own w' w.heap.size a n cap (bS (rs.take i))/\Below w.heap.size w w'
theorem lj (b cap k:Nat)(rs:List R4)(w:World)(hk:k=rs.length)(hrl:rs.length<1000)(hc:∀j (hj:j<rs.length),w.cell? ⟨b,j,none⟩=some (sv rs[j]))(hrow:∀r∈rs,Row w r.1 r.2.1 r.2.2.1 r.2.2.2)(hr:(bS rs).length<=140737488355328) :
  Calls Tryz.prog 165 #[.slice (some ⟨b,0,none⟩) k cap] w λe w'=>∃a' n' cap',e=.returned (.slice a' n' cap')/\Own w' w.heap.size a' n' cap' (bS rs)/\Below w.heap.size w w':=by
 subst hk;have HC:Hid (∀j (hj:j<rs.length),w.cell? ⟨b,j,none⟩=some (sv rs[j])):=hc
 have Qi:Hid (∀r∈rs,Row w r.1 r.2.1 r.2.2.1 r.2.2.2):=hrow
 have HR:Hid ((bS rs).length<=140737488355328):=hr
 clear hc hrow hr;go_enter Tryz.func165,Tryz.ntmps165
 go_wp2;go_loop [3,11] (FL rs) (λ_ t=>rs.length - (intOf t).toNat)
 case atStart=>exact⟨0,by omega,rfl,rfl⟩
 case round =>
  obtain⟨i,hi,rfl,rfl⟩:=hrel
  have ei:IntKind.i64.wrap ((i:Int)+1)=(i:Int)+1:=by rw [IntKind.wrap_i64];omega
  by_cases hlt:i<rs.length
  ·have hd:decide ((i:Int)<(rs.length:Int))=true:=by simp;omega
   have hcell:=HC.out i hlt
   obtain⟨a1,n1,c1,L1,hri⟩:∃a1 n1 c1 L1,rs[i]=(a1,n1,c1,L1):=⟨_,_,_,_,rfl⟩
   have hR:=Qi.out _ (List.getElem_mem hlt)
   have hct:=nh rs i hlt
   have hle:=iV rs (i+1)
   rw [hri] at hcell hR hct;simp only [sv] at hcell;have hlen:=hR.len
   simp only at hlen hct;have HT:Hid ((bS (rs.take (i+1))).length=(bS (rs.take i)).length+n1):=by unfold Hid;rw [hct,List.length_append,hlen]
   have ew:IntKind.i64.wrap (((bS (rs.take i)).length:Int)+(n1:Int))=((bS (rs.take i)).length:Int)+(n1:Int):=by
    have:=HR.out
    have:=HT.out
    rw [IntKind.wrap_i64];omega
   clear hR hct hle hri;go_wp2;exact⟨⟨i+1,by omega,by simp,by rw [HT.out];simp⟩,by simp [intOf];omega⟩
  ·obtain rfl:i=rs.length:=by omega
   rename World=>w
   rw [List.take_length];obtain⟨z,hz⟩:∃z,z=(bS rs).length:=⟨_,rfl⟩
   have HZ:Hid (0+z<=140737488355328):=by have:=HR.out;unfold Hid;omega
   rw [<-hz];clear hz ei;go_wp2_with (first|(go_at_call 152;refine (fX none 0 0 z [] _ (dS _) HZ.out).mono ?_;rintro e w2 ⟨g,rfl,hown,hb⟩))
   go_loopw [6,24] (FD w rs) (λ_ t _=>rs.length - (intOf t).toNat)
   case atStart=>exact⟨0,_,_,_,by omega,rfl,rfl,by simpa [bS] using hown,hb⟩
   case round =>
    clear hown hb hlt hi;obtain⟨i,a',n',cap',hi,rfl,rfl,hown,hB⟩:=hrel
    have ei:IntKind.i64.wrap ((i:Int)+1)=(i:Int)+1:=by rw [IntKind.wrap_i64];omega
    by_cases hlt:i<rs.length
    ·have hd:decide ((i:Int)<(rs.length:Int))=true:=by simp;omega
     have hcell:=cell_later hB (HC.out i hlt)
     obtain⟨a1,n1,c1,L1,hri⟩:∃a1 n1 c1 L1,rs[i]=(a1,n1,c1,L1):=⟨_,_,_,_,rfl⟩
     have hR:=(Qi.out _ (List.getElem_mem hlt)).later hB
     have hct:=nh rs i hlt
     have hle:=iV rs (i+1)
     rw [hri] at hcell hR hct;simp only [sv] at hcell;simp only at hR hct;have hl1:=hR.len
     have hl2:=hown.len
     have hl3:(bS (rs.take (i+1))).length=(bS (rs.take i)).length+L1.length:=by rw [hct,List.length_append]
     obtain⟨a2,c2,w3,hrun,hown2,hg2⟩:=kT hown hR hB.size (by have:=HR.out;omega)
     rw [<-hct] at hown2;have PD:Hid _:=hrun
     have HB:Hid (Below w.heap.size w w3):=hB.trans (Gr.below hown hg2 hB.size)
     clear hrun hown hB hg2 hR hct hle hri hl1 hl2 hl3;go_wp2_with (first|(at_builtin;refine al rfl _ _ 38 rfl _ _ rfl rfl _ w3 PD.out ?_))
     go_roundw
     case rel=>exact⟨i+1,a2,_,c2,by omega,by simp,rfl,hown2,HB.out⟩
     case measure=>simp [intOf];omega
    ·obtain rfl:i=rs.length:=by omega
     rw [List.take_length] at hown;go_wp2;go_ret;exact⟨_,_,_,rfl,hown,hB⟩
end Go.Proofs.YtffmodpgddecnaaGreatDoor.R
namespace Go.Proofs.YtffmodpgddecnaaGreatDoor.R
open Go.RowKit
def tQ (l:List Int):List Value:=l.map λn=>Value.int .i64 n
theorem rJ (l:List Int):(tQ l).length=l.length:=by simp [tQ]
theorem mu (l:List Int)(i:Nat)(h:i<l.length):(tQ l)[i]?=some (.int .i64 l[i]):=by simp [tQ,h]
structure RI (w:World)(a:Option Addr)(n cap:Nat)(L:List Int):Prop where
 len:L.length=n
 cap_:n<=cap
 none_:a=none->n=0/\cap=0
 cells:∀x,a=some x->∀j u,(tQ L)[j]?=some u->w.cell? (x.add j)=some u
theorem RI.later {W w1:World}{a:Option Addr}{n cap:Nat}{L:List Int}(hb:Below W.heap.size W w1)(h:RI W a n cap L):RI w1 a n cap L :=
 ⟨h.len,h.cap_,h.none_,λx hx j u hu=>cell_later hb (h.cells x hx j u hu)⟩
theorem RI.nil (w:World):RI w none 0 0 []:=⟨rfl,Nat.le_refl _,λ_=>⟨rfl,rfl⟩,λ_ h=>(by cases h)⟩
theorem RI.plain {w:World}{a:Option Addr}{n cap:Nat}{L:List Int}(h:RI w a n cap L)(hl:0<n):∃b o,a=some ⟨b,o,none⟩/\∀i (hi:i<L.length),w.cell? ⟨b,o+i,none⟩=some (.int .i64 L[i]):=by
 cases a with
 | none=>have:=h.none_ rfl;omega
 | some x =>
  obtain⟨b,o,spot⟩:=x
  have hlen:=h.len
  have h0:=h.cells _ rfl 0 _ (mu L 0 (by omega))
  have hs:spot=none:=by simpa [Addr.add] using World.cell?_spot h0
  subst hs;refine⟨b,o,rfl,λi hi=>?_⟩
  have:=h.cells _ rfl i _ (mu L i hi)
  rw [bB] at this;exact this
theorem RI.at {w:World}{b o n cap:Nat}{L:List Int}(hl:L.length=n)(hc:n<=cap)(h:∀i (hi:i<L.length),w.cell? ⟨b,o+i,none⟩=some (.int .i64 L[i])):RI w (some ⟨b,o,none⟩) n cap L:=by
 refine⟨hl,hc,λh=>(by cases h),λx hx j u hu=>?_⟩
 cases hx
 rw [bB];have hj:j<L.length:=by have:=(List.getElem?_eq_some_iff.1 hu).1;rwa [rJ] at this
 rw [mu L j hj] at hu;cases hu
 exact h j hj
theorem RI.one (w:World)(b:Int):RI (w.alloc (Obj.cells #[Value.int .i64 b] 3)) (some ⟨w.heap.size,0,.none⟩) 1 1 [b] :=
 RI.at (L:=[b]) rfl (Nat.le_refl _) (λi hi=>by
  have:i=0:=by simp at hi;omega
  subst this;simp [go_sem])
structure Sl where
 a:Option Addr
 n:Nat
 c:Nat
abbrev Sl.v (s:Sl):Value:=.slice s.a s.n s.c
abbrev Sl.nil:Sl:=⟨none,0,0⟩
def cC (c:Cl)(d g:Sl):List Value:=[.int .i64 c.op,.int .i64 c.aB,.int .i64 c.size,.int .i64 c.obj,.int .u64 (c.hi:Int),.int .u64 (c.lo:Int),.bool c.given,.int .i64 c.aA,.int .i64 c.off,.int .i64 c.n,d.v,.int .i64 c.index,g.v]
abbrev cV (c:Cl)(d g:Sl):Value:=.agg #[.int .i64 c.op,.int .i64 c.aB,.int .i64 c.size,.int .i64 c.obj,.int .u64 (c.hi:Int),.int .u64 (c.lo:Int),.bool c.given,.int .i64 c.aA,.int .i64 c.off,.int .i64 c.n,d.v,.int .i64 c.index,g.v]
structure Is (w:World)(c:Cl)(d g:Sl):Prop where
 data:Row w d.a d.n d.c c.data
 ax:RI w g.a g.n g.c c.ax
 hi:c.hi<18446744073709551616
 lo:c.lo<18446744073709551616
theorem Is.later {W w1:World}{c:Cl}{d g:Sl}(hb:Below W.heap.size W w1)(h:Is W c d g):Is w1 c d g:=⟨h.data.later hb,h.ax.later hb,h.hi,h.lo⟩
end Go.Proofs.YtffmodpgddecnaaGreatDoor.R
namespace Go.Proofs.YtffmodpgddecnaaGreatDoor.R
open Go.RowKit
def IZ (l:List Nat):List Value:=l.map λ(n:Nat)=>Value.int .i64 (n:Int)
structure RP (w:World)(base:Nat)(a:Option Addr)(n:Nat)(L:List Nat):Prop where
 len:L.length=n
 cells:∀j (hj:j<L.length),∃b,a=some ⟨b,0,none⟩/\base<=b/\w.cell? ⟨b,j,none⟩=some (.int .i64 ((L[j]:Nat):Int))
theorem RP.but {S:Nat->Prop}{W w1:World}{base:Nat}{a:Option Addr}{n:Nat}{L:List Nat}(hb:ah S W w1)(h:RP W base a n L)(hS:∀k,base<=k->¬S k):RP w1 base a n L :=
 ⟨h.len,λj hj=>by
  obtain⟨b,hb1,hb2,hc⟩:=h.cells j hj
  exact⟨b,hb1,hb2,by rw [World.cell?_of_block (w:=W) (hb.block b (World.block_lt_of_cell? _ _ hc) (hS b hb2))];exact hc⟩⟩
theorem RP.later {W w1:World}{base:Nat}{a:Option Addr}{n:Nat}{L:List Nat}(hb:Below W.heap.size W w1)(h:RP W base a n L):RP w1 base a n L:=h.but (S:=λ_=>False) (ah.of hb) (λ_ _ h=>h)
theorem RP.new (w:World)(t:TypeId)(A:Array Value)(L:List Nat)(hA:A=(IZ L).toArray):RP (w.alloc (.cells A t)) w.heap.size (some ⟨w.heap.size,0,none⟩) L.length L:=by
 subst hA;exact⟨rfl,λj hj=>⟨_,rfl,Nat.le_refl _,by simp [go_sem,IZ,hj]⟩⟩
theorem ki (op:Int)(w:World):Calls Tryz.prog 155 #[.int .i64 op] w λe w'=>∃a n c,e=.returned (.slice a n c)/\RP w' w.heap.size a n (bH op)/\n<=5/\Below w.heap.size w w'/\∀k,aJ a k->w.heap.size<=k:=by
 by_cases h:op=1
 ·subst h
  go_enter Tryz.func155,Tryz.ntmps155
  go_wp2;go_ret;exact⟨_,_,_,rfl,RP.new w 212 _ [0] rfl,by decide,ae _ _,λk ⟨x,hx,hk⟩=>by cases hx;exact Nat.le_of_eq hk⟩
 have b1:(op==1)=false:=by simpa using h
 have n1:Hid (¬op=1):=h
 clear h;by_cases h:op=2
 ·subst h
  go_enter Tryz.func155,Tryz.ntmps155
  go_wp2;go_ret;exact⟨_,_,_,rfl,RP.new w 212 _ [1,2] rfl,by decide,ae _ _,λk ⟨x,hx,hk⟩=>by cases hx;exact Nat.le_of_eq hk⟩
 have b2:(op==2)=false:=by simpa using h
 have n2:Hid (¬op=2):=h
 clear h;by_cases h:op=4
 ·subst h
  go_enter Tryz.func155,Tryz.ntmps155
  go_wp2;go_ret;exact⟨_,_,_,rfl,RP.new w 212 _ [1,2] rfl,by decide,ae _ _,λk ⟨x,hx,hk⟩=>by cases hx;exact Nat.le_of_eq hk⟩
 have b4:(op==4)=false:=by simpa using h
 have n4:Hid (¬op=4):=h
 clear h;by_cases h:op=7
 ·subst h
  go_enter Tryz.func155,Tryz.ntmps155
  go_wp2;go_ret;exact⟨_,_,_,rfl,RP.new w 212 _ [1,2] rfl,by decide,ae _ _,λk ⟨x,hx,hk⟩=>by cases hx;exact Nat.le_of_eq hk⟩
 have b7:(op==7)=false:=by simpa using h
 have n7:Hid (¬op=7):=h
 clear h;by_cases h:op=3
 ·subst h
  go_enter Tryz.func155,Tryz.ntmps155
  go_wp2;go_ret;exact⟨_,_,_,rfl,RP.new w 212 _ [1,2,4] rfl,by decide,ae _ _,λk ⟨x,hx,hk⟩=>by cases hx;exact Nat.le_of_eq hk⟩
 have b3:(op==3)=false:=by simpa using h
 have n3:Hid (¬op=3):=h
 clear h;by_cases h:op=5
 ·subst h
  go_enter Tryz.func155,Tryz.ntmps155
  go_wp2;go_ret;exact⟨_,_,_,rfl,RP.new w 212 _ [1,3,2,5,6] rfl,by decide,ae _ _,λk ⟨x,hx,hk⟩=>by cases hx;exact Nat.le_of_eq hk⟩
 have b5:(op==5)=false:=by simpa using h
 have n5:Hid (¬op=5):=h
 clear h;by_cases h:op=6
 ·subst h
  go_enter Tryz.func155,Tryz.ntmps155
  go_wp2;go_ret;exact⟨_,_,_,rfl,RP.new w 212 _ [1,3,2,5,7] rfl,by decide,ae _ _,λk ⟨x,hx,hk⟩=>by cases hx;exact Nat.le_of_eq hk⟩
 have b6:(op==6)=false:=by simpa using h
 have n6:Hid (¬op=6):=h
 clear h;by_cases h:op=8
 ·subst h
  go_enter Tryz.func155,Tryz.ntmps155
  go_wp2;go_ret;exact⟨_,_,_,rfl,RP.new w 212 _ [8] rfl,by decide,ae _ _,λk ⟨x,hx,hk⟩=>by cases hx;exact Nat.le_of_eq hk⟩
 have b8:(op==8)=false:=by simpa using h
 have n8:Hid (¬op=8):=h
 clear h;by_cases h:op=9
 ·subst h
  go_enter Tryz.func155,Tryz.ntmps155
  go_wp2;go_ret;exact⟨_,_,_,rfl,RP.new w 212 _ [9] rfl,by decide,ae _ _,λk ⟨x,hx,hk⟩=>by cases hx;exact Nat.le_of_eq hk⟩
 have b9:(op==9)=false:=by simpa using h
 have n9:Hid (¬op=9):=h
 clear h;have E:Hid (bH op=[]):=by
  have:=n1.out;have:=n2.out;have:=n3.out;have:=n4.out;have:=n5.out;have:=n6.out;have:=n7.out;have:=n8.out;have:=n9.out
  unfold Hid bH;rw [if_neg (by omega),if_neg (by omega),if_neg (by omega),if_neg (by omega),if_neg (by omega),if_neg (by omega),if_neg (by omega)]
 go_enter Tryz.func155,Tryz.ntmps155
 go_wp2;go_ret;exact⟨none,0,0,rfl,by rw [E.out];exact⟨rfl,λj hj=>absurd hj (by simp)⟩,by omega,Below.refl _ _,λk ⟨x,hx,hk⟩=>by cases hx⟩
end Go.Proofs.YtffmodpgddecnaaGreatDoor.R
namespace Go.Proofs.YtffmodpgddecnaaGreatDoor.R
open Go.RowKit
theorem gL (W:World)(cs:List Value)(t:TypeId):(W.alloc (.cells cs.toArray t)).rangeAt W.heap.size 0 cs:=by
 intro j v hv;have hj:=(List.getElem?_eq_some_iff.1 hv)
 simp [go_sem,hv]
theorem eT (W:World)(b:Nat)(cs:List Value)(hb:b=W.heap.size)(hl:cs.length=13):(loadVar 44 ⟨b,0,none⟩).run Tryz.prog (W.alloc (.cells cs.toArray 44))=.ok (.agg cs.toArray) (W.alloc (.cells cs.toArray 44)):=by
 subst hb;exact run_loadVar_mid (P:=Tryz.prog) _ _ 0 44 cs _ (gL W cs 44) Tryz.underlying44 rfl (by rw [hl];kernel_rfl)
def wd (p:Nat)(d:Sl):Sl:=if p=7 then Sl.nil else d
def wg (p:Nat)(g:Sl):Sl:=if p=9 then Sl.nil else g
theorem Is.wo {w:World}{c:Cl}{d g:Sl}(h:Is w c d g)(p:Nat):Is w (wo c p) (wd p d) (wg p g):=by
 obtain⟨op,aB,size,obj,hi,lo,given,aA,off,n,data,index,ax⟩:=c
 unfold R.wo wd wg mv;repeat' split
 all_goals first
  | omega
  | exact⟨h.1,h.2,h.3,h.4⟩
  | exact⟨h.1,h.2,(by show (0:Nat)<18446744073709551616;omega),(by show (0:Nat)<18446744073709551616;omega)⟩
  | exact⟨dS _,h.2,h.3,h.4⟩
  | exact⟨h.1,RI.nil _,h.3,h.4⟩
theorem zU (c:Cl)(d g:Sl)(w:World):Calls Tryz.prog 237 #[cV c d g,.int .i64 0] w λe w'=>e=.returned (cV (wo c 0) (wd 0 d) (wg 0 g))/\Below w.heap.size w w':=by
 obtain⟨op,aB,size,obj,hi,lo,given,aA,off,n,data,index,ax⟩:=c
 obtain⟨da,dn,dc⟩:=d
 obtain⟨ga,gn,gc⟩:=g
 unfold cV;show Calls _ _ _ _ λe w'=>e=.returned (.agg #[.int .i64 op,.int .i64 aB,.int .i64 0,.int .i64 obj,.int .u64 (hi:Int),.int .u64 (lo:Int),.bool given,.int .i64 aA,.int .i64 off,.int .i64 n,.slice da dn dc,.int .i64 index,.slice ga gn gc])/\Below w.heap.size w w'
 go_enter Tryz.func237,Tryz.ntmps237
 go_wp2;exact bodyPost_ret (by simp [results,Tryz.results237,asAddr,eT]) rfl ⟨rfl,aC _ _ _⟩
theorem yO (c:Cl)(d g:Sl)(w:World):Calls Tryz.prog 237 #[cV c d g,.int .i64 1] w λe w'=>e=.returned (cV (wo c 1) (wd 1 d) (wg 1 g))/\Below w.heap.size w w':=by
 obtain⟨op,aB,size,obj,hi,lo,given,aA,off,n,data,index,ax⟩:=c
 obtain⟨da,dn,dc⟩:=d
 obtain⟨ga,gn,gc⟩:=g
 unfold cV;show Calls _ _ _ _ λe w'=>e=.returned (.agg #[.int .i64 op,.int .i64 aB,.int .i64 size,.int .i64 0,.int .u64 (hi:Int),.int .u64 (lo:Int),.bool given,.int .i64 aA,.int .i64 off,.int .i64 n,.slice da dn dc,.int .i64 index,.slice ga gn gc])/\Below w.heap.size w w'
 go_enter Tryz.func237,Tryz.ntmps237
 go_wp2;exact bodyPost_ret (by simp [results,Tryz.results237,asAddr,eT]) rfl ⟨rfl,aC _ _ _⟩
theorem BK (c:Cl)(d g:Sl)(w:World):Calls Tryz.prog 237 #[cV c d g,.int .i64 2] w λe w'=>e=.returned (cV (wo c 2) (wd 2 d) (wg 2 g))/\Below w.heap.size w w':=by
 obtain⟨op,aB,size,obj,hi,lo,given,aA,off,n,data,index,ax⟩:=c
 obtain⟨da,dn,dc⟩:=d
 obtain⟨ga,gn,gc⟩:=g
 unfold cV;show Calls _ _ _ _ λe w'=>e=.returned (.agg #[.int .i64 op,.int .i64 aB,.int .i64 size,.int .i64 obj,.int .u64 0,.int .u64 0,.bool given,.int .i64 aA,.int .i64 off,.int .i64 n,.slice da dn dc,.int .i64 index,.slice ga gn gc])/\Below w.heap.size w w'
 go_enter Tryz.func237,Tryz.ntmps237
 go_wp2;exact bodyPost_ret (by simp [results,Tryz.results237,asAddr,eT]) rfl ⟨rfl,aC _ _ _⟩
theorem B5 (c:Cl)(d g:Sl)(w:World):Calls Tryz.prog 237 #[cV c d g,.int .i64 3] w λe w'=>e=.returned (cV (wo c 3) (wd 3 d) (wg 3 g))/\Below w.heap.size w w':=by
 obtain⟨op,aB,size,obj,hi,lo,given,aA,off,n,data,index,ax⟩:=c
 obtain⟨da,dn,dc⟩:=d
 obtain⟨ga,gn,gc⟩:=g
 unfold cV;show Calls _ _ _ _ λe w'=>e=.returned (.agg #[.int .i64 op,.int .i64 aB,.int .i64 size,.int .i64 obj,.int .u64 (hi:Int),.int .u64 (lo:Int),.bool false,.int .i64 aA,.int .i64 off,.int .i64 n,.slice da dn dc,.int .i64 index,.slice ga gn gc])/\Below w.heap.size w w'
 go_enter Tryz.func237,Tryz.ntmps237
 go_wp2;exact bodyPost_ret (by simp [results,Tryz.results237,asAddr,eT]) rfl ⟨rfl,aC _ _ _⟩
theorem Ai (c:Cl)(d g:Sl)(w:World):Calls Tryz.prog 237 #[cV c d g,.int .i64 4] w λe w'=>e=.returned (cV (wo c 4) (wd 4 d) (wg 4 g))/\Below w.heap.size w w':=by
 obtain⟨op,aB,size,obj,hi,lo,given,aA,off,n,data,index,ax⟩:=c
 obtain⟨da,dn,dc⟩:=d
 obtain⟨ga,gn,gc⟩:=g
 unfold cV;show Calls _ _ _ _ λe w'=>e=.returned (.agg #[.int .i64 op,.int .i64 aB,.int .i64 size,.int .i64 obj,.int .u64 (hi:Int),.int .u64 (lo:Int),.bool given,.int .i64 0,.int .i64 off,.int .i64 n,.slice da dn dc,.int .i64 index,.slice ga gn gc])/\Below w.heap.size w w'
 go_enter Tryz.func237,Tryz.ntmps237
 go_wp2;exact bodyPost_ret (by simp [results,Tryz.results237,asAddr,eT]) rfl ⟨rfl,aC _ _ _⟩
theorem Be (c:Cl)(d g:Sl)(w:World):Calls Tryz.prog 237 #[cV c d g,.int .i64 5] w λe w'=>e=.returned (cV (wo c 5) (wd 5 d) (wg 5 g))/\Below w.heap.size w w':=by
 obtain⟨op,aB,size,obj,hi,lo,given,aA,off,n,data,index,ax⟩:=c
 obtain⟨da,dn,dc⟩:=d
 obtain⟨ga,gn,gc⟩:=g
 unfold cV;show Calls _ _ _ _ λe w'=>e=.returned (.agg #[.int .i64 op,.int .i64 aB,.int .i64 size,.int .i64 obj,.int .u64 (hi:Int),.int .u64 (lo:Int),.bool given,.int .i64 aA,.int .i64 0,.int .i64 n,.slice da dn dc,.int .i64 index,.slice ga gn gc])/\Below w.heap.size w w'
 go_enter Tryz.func237,Tryz.ntmps237
 go_wp2;exact bodyPost_ret (by simp [results,Tryz.results237,asAddr,eT]) rfl ⟨rfl,aC _ _ _⟩
theorem Ba (c:Cl)(d g:Sl)(w:World):Calls Tryz.prog 237 #[cV c d g,.int .i64 6] w λe w'=>e=.returned (cV (wo c 6) (wd 6 d) (wg 6 g))/\Below w.heap.size w w':=by
 obtain⟨op,aB,size,obj,hi,lo,given,aA,off,n,data,index,ax⟩:=c
 obtain⟨da,dn,dc⟩:=d
 obtain⟨ga,gn,gc⟩:=g
 unfold cV;show Calls _ _ _ _ λe w'=>e=.returned (.agg #[.int .i64 op,.int .i64 aB,.int .i64 size,.int .i64 obj,.int .u64 (hi:Int),.int .u64 (lo:Int),.bool given,.int .i64 aA,.int .i64 off,.int .i64 0,.slice da dn dc,.int .i64 index,.slice ga gn gc])/\Below w.heap.size w w'
 go_enter Tryz.func237,Tryz.ntmps237
 go_wp2;exact bodyPost_ret (by simp [results,Tryz.results237,asAddr,eT]) rfl ⟨rfl,aC _ _ _⟩
theorem yT (c:Cl)(d g:Sl)(w:World):Calls Tryz.prog 237 #[cV c d g,.int .i64 7] w λe w'=>e=.returned (cV (wo c 7) (wd 7 d) (wg 7 g))/\Below w.heap.size w w':=by
 obtain⟨op,aB,size,obj,hi,lo,given,aA,off,n,data,index,ax⟩:=c
 obtain⟨da,dn,dc⟩:=d
 obtain⟨ga,gn,gc⟩:=g
 unfold cV;show Calls _ _ _ _ λe w'=>e=.returned (.agg #[.int .i64 op,.int .i64 aB,.int .i64 size,.int .i64 obj,.int .u64 (hi:Int),.int .u64 (lo:Int),.bool given,.int .i64 aA,.int .i64 off,.int .i64 n,.slice none 0 0,.int .i64 index,.slice ga gn gc])/\Below w.heap.size w w'
 go_enter Tryz.func237,Tryz.ntmps237
 go_wp2;exact bodyPost_ret (by simp [results,Tryz.results237,asAddr,eT]) rfl ⟨rfl,aC _ _ _⟩
theorem zK (c:Cl)(d g:Sl)(w:World):Calls Tryz.prog 237 #[cV c d g,.int .i64 8] w λe w'=>e=.returned (cV (wo c 8) (wd 8 d) (wg 8 g))/\Below w.heap.size w w':=by
 obtain⟨op,aB,size,obj,hi,lo,given,aA,off,n,data,index,ax⟩:=c
 obtain⟨da,dn,dc⟩:=d
 obtain⟨ga,gn,gc⟩:=g
 unfold cV;show Calls _ _ _ _ λe w'=>e=.returned (.agg #[.int .i64 op,.int .i64 aB,.int .i64 size,.int .i64 obj,.int .u64 (hi:Int),.int .u64 (lo:Int),.bool given,.int .i64 aA,.int .i64 off,.int .i64 n,.slice da dn dc,.int .i64 0,.slice ga gn gc])/\Below w.heap.size w w'
 go_enter Tryz.func237,Tryz.ntmps237
 go_wp2;exact bodyPost_ret (by simp [results,Tryz.results237,asAddr,eT]) rfl ⟨rfl,aC _ _ _⟩
theorem Br (c:Cl)(d g:Sl)(w:World):Calls Tryz.prog 237 #[cV c d g,.int .i64 9] w λe w'=>e=.returned (cV (wo c 9) (wd 9 d) (wg 9 g))/\Below w.heap.size w w':=by
 obtain⟨op,aB,size,obj,hi,lo,given,aA,off,n,data,index,ax⟩:=c
 obtain⟨da,dn,dc⟩:=d
 obtain⟨ga,gn,gc⟩:=g
 unfold cV;show Calls _ _ _ _ λe w'=>e=.returned (.agg #[.int .i64 op,.int .i64 aB,.int .i64 size,.int .i64 obj,.int .u64 (hi:Int),.int .u64 (lo:Int),.bool given,.int .i64 aA,.int .i64 off,.int .i64 n,.slice da dn dc,.int .i64 index,.slice none 0 0])/\Below w.heap.size w w'
 go_enter Tryz.func237,Tryz.ntmps237
 go_wp2;exact bodyPost_ret (by simp [results,Tryz.results237,asAddr,eT]) rfl ⟨rfl,aC _ _ _⟩
theorem qD (p:Nat)(hp:p<10)(c:Cl)(d g:Sl)(w:World):Calls Tryz.prog 237 #[cV c d g,.int .i64 (p:Int)] w λe w'=>e=.returned (cV (wo c p) (wd p d) (wg p g))/\Below w.heap.size w w':=by
 rcases (by omega:p=0\/p=1\/p=2\/p=3\/p=4\/p=5\/p=6\/p=7\/p=8\/p=9) with rfl|rfl|rfl|rfl|rfl|rfl|rfl|rfl|rfl|rfl
 ·exact zU c d g w
 ·exact yO c d g w
 ·exact BK c d g w
 ·exact B5 c d g w
 ·exact Ai c d g w
 ·exact Be c d g w
 ·exact Ba c d g w
 ·exact yT c d g w
 ·exact zK c d g w
 ·exact Br c d g w
end Go.Proofs.YtffmodpgddecnaaGreatDoor.R
namespace Go.Proofs.YtffmodpgddecnaaGreatDoor.R
open Go.RowKit
theorem aV {P:Program}{w:World}{ops:Array Oper}{rest:List Oper}{a:Act}{Q:Exit->Act->World->Prop}{d:Option Tmp}{tt:TypeId}{ps:String}{af}{ty:TypeId}{x:Operand}{p v:Value}
  (hr:(Instr.loadAt ty p).run P w=.ok v w) (hx:a.eval x=p) (h:wpList P ops Q rest (a.put d v) w) :
  wpList P ops Q ({ dst:=d,op:=.load ty x,type:=tt,pos:=ps,after:=af,guard:=none }::rest) a w:=by
 refine wpList_plain rfl λK hK=>?_
 unfold Oper.wp execOp;simp only [hx,hr,Sem.run_bind,Sem.run_pure,Result.andThen_ok];exact hK _ _ h
theorem gS {P:Program}{w:World}{ops:Array Oper}{rest:List Oper}{a:Act}{Q:Exit->Act->World->Prop}{d:Option Tmp}{tt:TypeId}{ps:String}{af}{gd}{ty:TypeId}{x:Operand}{p v:Value}
  (hr:(Instr.loadAt ty p).run P w=.ok v w) (hx:a.eval x=p) (hw:Region.wanted { dst:=d,op:=.load ty x,type:=tt,pos:=ps,after:=af,guard:=gd } (yielded ops a.tmps)=true) (h:wpList P ops Q rest (a.put d v) w) :
  wpList P ops Q ({ dst:=d,op:=.load ty x,type:=tt,pos:=ps,after:=af,guard:=gd }::rest) a w:=by
 refine wpList_step λK hK=>?_
 rw [if_pos hw];unfold Oper.wp execOp;simp only [hx,hr,Sem.run_bind,Sem.run_pure,Result.andThen_ok];exact hK _ _ h
theorem yL:(Tryz.prog.info? 44).map (·.size)=some 13:=by kernel_rfl
theorem m7 {w:World}{b o:Nat}{L:List Value}(h:w.rangeAt b o L)(hl:L.length=13):(Instr.loadAt 44 (.pointer (some ⟨b,o,none⟩))).run Tryz.prog w=.ok (.agg L.toArray) w :=
 run_loadAt_mid w b o 44 L _ h Tryz.underlying44 rfl (by rw [yL,hl])
theorem CU {w:World}{b o:Nat}{L:List Value}(h:w.rangeAt b o L)(hl:L.length=13):(loadVar 44 ⟨b,o,none⟩).run Tryz.prog w=.ok (.agg L.toArray) w :=
 run_loadVar_mid w b o 44 L _ h Tryz.underlying44 rfl (by rw [yL,hl])
theorem Ae (c:Cl)(d g:Sl):∀v∈cC c d g,v.oneCell'=true:=by
 intro v hv;simp only [cC,List.mem_cons,List.mem_nil_iff,or_false] at hv;rcases hv with rfl|rfl|rfl|rfl|rfl|rfl|rfl|rfl|rfl|rfl|rfl|rfl|rfl<;>rfl
structure Bx (w:World)(b:Nat)(L:List Value):Prop where
 range:w.rangeAt b 0 L
 there:w.there b 0 L.length
theorem Bx.but {S:Nat->Prop}{w w':World}{b:Nat}{L:List Value}(hb:ah S w w')(h:Bx w b L)(hn:¬S b):Bx w' b L:=by
 refine⟨λj v hv=>?_,λj hj=>?_⟩
 ·have hc:=h.range j v hv
  have hk:=hb.block b (World.block_lt_of_cell? _ _ hc) hn
  rw [World.cell?_of_block (w:=w) hk];exact hc
 ·obtain⟨h1,h2⟩:=h.there j hj
  obtain⟨v,hv⟩:=Option.isSome_iff_exists.1 h1
  have hk:=hb.block b (World.block_lt_of_cell? _ _ hv) hn
  exact⟨by rw [World.cell?_of_block (w:=w) hk];exact h1,by rw [World.frozen?_of_block hk];exact h2⟩
theorem Bx.later {w w':World}{b:Nat}{L:List Value}(hb:Below w.heap.size w w')(h:Bx w b L):Bx w' b L:=h.but (S:=λ_=>False) (ah.of hb) (λh=>h)
theorem Bx.new (w:World)(L:List Value)(t:TypeId):Bx (w.alloc (.cells L.toArray t)) w.heap.size L:=by
 refine⟨gL w L t,λj hj=>⟨?_,?_⟩⟩
 ·rw [gL w L t j L[j] (by simp [hj])];rfl
 ·simp [go_sem]
theorem ay {S:Nat->Prop}{b:Nat}(hb:S b):∀(vs:List Value) (o:Nat) {a w:World},ah S a w->ah S a (w.setCells b o vs)
 | [],_,_,_,h=>h
 | v::r,o,a,w,h=>by rw [World.setCells];exact ay hb r (o+1) (h.setCell hb _)
theorem dH (b:Nat)(x:Addr):∀(vs:List Value) (o:Nat) (w:World),(w.setCells b o vs).frozen? x=w.frozen? x
 | [],_,_=>rfl
 | v::r,o,w=>by rw [World.setCells,dH b x r];simp
theorem Bx.set {w:World}{b:Nat}{L M:List Value}(h:Bx w b L)(hl:M.length=L.length):Bx (w.setCells b 0 M) b M:=by
 refine⟨World.rangeAt_setCells_same _ _ _ _ (hl ▸ h.there),λj hj=>?_⟩
 obtain⟨h1,h2⟩:=h.there j (by omega)
 exact⟨World.isSome_setCells _ _ _ _ _ h1,by rw [dH];exact h2⟩
theorem Bx.lt {w:World}{b:Nat}{L:List Value}(h:Bx w b L)(hl:0<L.length):b<w.heap.size:=by
 obtain⟨h1,_⟩:=h.there 0 hl
 obtain⟨v,hv⟩:=Option.isSome_iff_exists.1 h1
 exact World.block_lt_of_cell? _ _ hv
theorem Bx.cell {w:World}{b:Nat}{L:List Value}(h:Bx w b L)(j:Nat){v:Value}(hv:L[j]?=some v):w.cell? ⟨b,j,none⟩=some v:=by
 have:=h.range j v hv
 rwa [Nat.zero_add] at this
theorem xP {w:World}{b o n:Nat}{L:List Value}(h:w.there b o n)(hl:L.length=n)(h1:∀v∈L,v.oneCell'=true):(storeCells ⟨b,o,none⟩ L).run Tryz.prog w=.ok () (w.setCells b o L) :=
 run_storeCells_cells (P:=Tryz.prog) b o L 0 w (λj hj=>by rw [Nat.add_zero];exact (h j (by omega)).1) (λj hj=>by rw [Nat.add_zero];exact (h j (by omega)).2) h1
def z41:List Value:=cC (clz 0 0) Sl.nil Sl.nil
theorem Gt:∃Z:List Value,Z.length=13/\(∀v∈Z,v.oneCell'=true)/\Z=z41/\∀w:World,(zeroValue 44).run Tryz.prog w=.ok (.agg Z.toArray) w:=by
 refine⟨z41,rfl,Ae _ _ _,rfl,λw=>?_⟩
 obtain⟨i,hi,hz⟩:∃i,Tryz.prog.info? 44=some i/\i.zero=some (.agg z41.toArray):=by
  have h:(Tryz.prog.info? 44).map (·.zero)=some (some (.agg z41.toArray)):=by kernel_rfl
  cases hq:Tryz.prog.info? 44 with
  | none=>simp [hq] at h
  | some i=>simp [hq] at h;exact⟨i,rfl,h⟩
 simp [zeroValue,typeInfo,hi,hz]
end Go.Proofs.YtffmodpgddecnaaGreatDoor.R
