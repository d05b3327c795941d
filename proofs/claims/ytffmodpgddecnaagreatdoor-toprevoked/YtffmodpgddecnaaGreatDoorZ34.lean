import Derived.Test.YtffmodpgddecnaaGreatDoorZ33
set_option linter.unusedVariables false
set_option linter.unusedSimpArgs false
set_option maxHeartbeats 8000000
namespace Go.Proofs.YtffmodpgddecnaaGreatDoor.V
open Go.RowKit
open Go.Proofs.YtffmodpgddecnaaGreatDoor.H (aq Cp)
section
variable {w w0 u u' w':World}{H:Hd}{s s':aP}{N N':Nat->Prop}{c:R.Cl}{dd gg:R.Sl}{r:dk}{b:Nat}{L:List Value}{P0:Pm}
structure Wt (w0 u:World)(H:Hd)(s:aP)(N:Nat->Prop):Prop where
 k:Kn u H s N
 lo:∀k,N k->w0.heap.size<=k
 b:Below w0.heap.size w0 u
theorem Wt.later (h:Wt w0 u H s N)(hb:Below u.heap.size u u'):Wt w0 u' H s N:=⟨h.k.later hb,h.lo,aa h.b hb⟩
theorem Wt.bf (h:Wt w0 u H s N)(hk:Kn u' H s' N')(hw:aK u N u' N'):Wt w0 u' H s' N' :=
 ⟨hk,λk hk=>(hw.1 k hk).elim (h.lo k) (λe=>Nat.le_trans h.b.size e),ah.below h.b hw.2 h.lo⟩
structure Bq (u:World)(N:Nat->Prop)(b:Nat)(L:List Value):Prop where
 x:R.Bx u b L
 n:¬N b
theorem Bq.later (h:Bq u N b L)(hb:Below u.heap.size u u'):Bq u' N b L:=⟨R.Bx.later hb h.x,h.n⟩
theorem Bq.bf (h:Bq u N b L)(hl:0<L.length)(hw:aK u N u' N'):Bq u' N' b L:=⟨R.Bx.but hw.2 h.x h.n,hw.out (h.x.lt hl) h.n⟩
theorem Bq.new (hk:Kn u H s N)(L:List Value)(ty:TypeId):Bq (u.alloc (Obj.cells L.toArray ty)) N u.heap.size L:=⟨R.Bx.new u L ty,hk.new (Nat.le_refl _)⟩
structure Cq (u:World)(N:Nat->Prop)(g i:Nat)(v:Value):Prop where
 x:u.cell? ⟨g,i,none⟩=some v
 n:¬N g
theorem Cq.later {g i:Nat}{v:Value}(h:Cq u N g i v)(hb:Below u.heap.size u u'):Cq u' N g i v:=⟨cell_later hb h.x,h.n⟩
theorem Cq.bf {g i:Nat}{v:Value}(h:Cq u N g i v)(hl:True)(hw:aK u N u' N'):Cq u' N' g i v:=⟨hw.cell h.x h.n,hw.out (World.block_lt_of_cell? _ _ h.x) h.n⟩
theorem gI (hk:Wt w0 u H s N)(hp:H.p=P0)(hi:R.Is u c dd gg)(hap:0<dd.n->∀j,aJ dd.a j->¬N j)(hr:(eZ P0 s c).1=r)(hs:(eZ P0 s c).2=s') :
  Calls Tryz.prog 13 #[.pointer (some ⟨H.kb,0,none⟩),.agg (R.cC c dd gg).toArray] u (bV u H N (r,s')):=by
 have:=zB hk.k hi hap
 rw [hp] at this;rw [<-hr,<-hs];exact this
def Hy (j:Nat):Nat:=[100,200,300,400].getD j 0
def Hp:Cf:=⟨16,4,8,8,8,4,4,2,2,64⟩
def lM:Pm:=Hp.pm 4 (λj=>D.aY (Hy j) Hp.W)
def Gq:aP:=sa Hp.m.toNat [0]
theorem xr (i:Nat):Hy i<aq*aq:=by
 unfold Hy;match i with
 | 0=>decide
 | 1=>decide
 | 2=>decide
 | 3=>decide
 | n+4=>simp;decide
def J9:R.Cl:=⟨1,0,64,0,0,0,false,0,0,0,[],0,[]⟩
def FO:aP:=(eZ lM Gq J9).2
def JP:R.Cl:=⟨3,0,0,1,0,100,false,7,0,0,[],0,[]⟩
def FW:aP:=(eZ lM FO JP).2
def J3:R.Cl:=⟨7,0,0,1,0,200,false,0,0,0,[],0,[]⟩
def Fc:aP:=(eZ lM FW J3).2
def Jz:R.Cl:=⟨9,0,0,0,0,0,false,0,0,0,[],0,[0]⟩
def Fu:aP:=(eZ lM Fc Jz).2
def Kv:R.Cl:=⟨9,0,0,0,0,0,false,0,0,0,[],0,[]⟩
def Gh:aP:=(eZ lM Fu Kv).2
def Hx:R.Cl:=⟨6,1,0,1,0,0,false,0,3,0,[7,8],0,[]⟩
def Fx:aP:=(eZ lM Gh Hx).2
def Kj:R.Cl:=⟨5,2,0,1,0,200,true,0,3,2,[],0,[]⟩
def GZ:aP:=(eZ lM Fx Kj).2
def JX:R.Cl:=⟨5,2,0,1,0,0,false,0,3,2,[],0,[]⟩
def GF:aP:=(eZ lM GZ JX).2
def Kh:R.Cl:=⟨4,0,0,1,0,100,false,0,0,0,[],0,[]⟩
def E9:aP:=(eZ lM GF Kh).2
def GM:R.Cl:=⟨5,2,0,1,0,200,true,0,3,2,[],0,[]⟩
def A0:aP:=(eZ lM E9 GM).2
def Fv:R.Cl:=⟨5,1,0,1,0,0,false,0,3,2,[],0,[]⟩
def Il:aP:=(eZ lM A0 Fv).2
set_option maxRecDepth 100000
theorem Iz:(eZ lM Gq J9).1=⟨0,(1,0,100),[],0⟩:=by kernel_rfl
theorem I9:(eZ lM FO JP).1=⟨0,(1,0,200),[],0⟩:=by kernel_rfl
theorem Ix:(eZ lM FW J3).1=⟨0,(0,0,0),[],0⟩:=by kernel_rfl
theorem Ij:(eZ lM Fc Jz).1=⟨0,(0,0,0),[],1⟩:=by kernel_rfl
theorem Ie:(eZ lM Fu Kv).1=⟨0,(0,0,0),[],2⟩:=by kernel_rfl
theorem IW:(eZ lM Gh Hx).1=⟨0,(0,0,0),[],0⟩:=by kernel_rfl
theorem Jb:(eZ lM Fx Kj).1=⟨0,(0,0,0),[7,8],0⟩:=by kernel_rfl
theorem Js:(eZ lM GZ JX).1=⟨3,(0,0,0),[],0⟩:=by kernel_rfl
theorem Jm:(eZ lM GF Kh).1=⟨0,(0,0,0),[],0⟩:=by kernel_rfl
theorem G9:(eZ lM E9 GM).1=⟨3,(0,0,0),[],0⟩:=by kernel_rfl
theorem Fm:(eZ lM A0 Fv).1=⟨3,(0,0,0),[],0⟩:=by kernel_rfl
theorem pQ (hl:D.Laid w)(h0:0<w.heap.size):Calls Tryz.prog 32 #[] w λe w'=>e=.returned (.bool true)/\Below w.heap.size w w':=by
 obtain⟨W1,hW1⟩:∃W1,W1=w.alloc (Obj.cells #[.int .i64 16,.int .i64 4,.int .i64 8,.int .i64 8,.int .i64 8,.int .i64 4,.int .i64 4,.int .i64 2,.int .i64 2,.int .i64 64] 23):=⟨_,rfl⟩
 obtain⟨W2,hW2⟩:∃W2,W2=W1.alloc (Obj.cells #[.int .u64 0,.int .u64 100,.int .u64 0,.int .u64 200,.int .u64 0,.int .u64 300,.int .u64 0,.int .u64 400] 30):=⟨_,rfl⟩
 have hB1:Below w.heap.size w W1:=by rw [hW1];exact ae _ _
 have hB2:Below W1.heap.size W1 W2:=by rw [hW2];exact ae _ _
 have hX:R.Bx W1 w.heap.size Hp.L:=by rw [hW1];exact R.Bx.new w Hp.L 23
 have P5:=ab (Ia hX)
 have hws:D.Ws W2 (some ⟨W1.heap.size,0,none⟩) 4 4 Hy:=by
  refine⟨Nat.le_refl _,λh=>(by cases h),λx hx j u hu=>?_,xr⟩
  cases hx
  rw [aQ,hW2];have e:D.oT Hy 4=[.int .u64 0,.int .u64 100,.int .u64 0,.int .u64 200,.int .u64 0,.int .u64 300,.int .u64 0,.int .u64 400]:=by kernel_rfl
  rw [e] at hu;exact (S.aH W1 #[.int .u64 0,.int .u64 100,.int .u64 0,.int .u64 200,.int .u64 0,.int .u64 300,.int .u64 0,.int .u64 400] 30 j u (by simpa using hu)).1
 have QE:=ab (bU Hp (by kernel_rfl) (some ⟨W1.heap.size,0,none⟩) 4 4 Hy W2 hws (by omega) (cell_later hB2 (cell_later hB1 hl)) (by have:=hB1.size;have:=hB2.size;omega))
 have PB:Hid (Below w.heap.size w W2):=aa hB1 hB2
 have SW:=ab hW1
 have Qd:=ab hW2
 clear hB1 hB2 hX hws hW1 hW2 hl h0;go_enter Tryz.func32,Tryz.ntmps32
 go_upto_region 2 with fail
 rw [<-SW.out];go_upto_region 5 with (first|((with_reducible refine R.aV P5.out ?_ ?_);(· rfl))|(go_at_call 11;rw [<-Qd.out];refine QE.out.mono ?_;rintro e x1 ⟨H,N0,rfl,hk,hp,-,hN,hb⟩;have Ug:Hid (Wt w x1 H Gq N0):=ab ⟨hk,λk hk=>Nat.le_trans PB.out.size (hN k hk),aa PB.out hb⟩;have HP:Hid (H.p=lM):=hp;clear hk hp hN hb))
 clear SW Qd P5 QE PB;have P2:Hid (Calls Tryz.prog 13 #[.pointer (some ⟨H.kb,0,none⟩),.agg #[.int .i64 1,.int .i64 0,.int .i64 64,.int .i64 0,.int .u64 0,.int .u64 0,.bool false,.int .i64 0,.int .i64 0,.int .i64 0,.slice none 0 0,.int .i64 0,.slice none 0 0]] x1 (bV x1 H N0 (⟨0,(1,0,100),[],0⟩,FO))):=gI (c:=J9) (dd:=⟨none,0,0⟩) (gg:=⟨none,0,0⟩) Ug.out HP.out ⟨⟨rfl,Nat.le_refl _,λ_=>⟨rfl,rfl⟩,λ_ h=>(by cases h),λ_ h=>(by cases h)⟩,R.RI.nil _,by decide,by decide⟩ (λh=>absurd h (by decide)) Iz rfl
 have hfd:∀(a:Option Addr) (n c:Nat) (U:World),(Instr.field 40 (dw ⟨0,(1,0,100),[],0⟩ a n c) 1).run Tryz.prog U=.ok (.agg #[.int .i64 1,.int .u64 0,.int .u64 100]) U:=λa n c U=>by kernel_rfl
 go_upto_region 6 with (first|(go_at_call 13;refine P2.out.mono ?_;rintro e v1 ⟨a1,n1,c1,N1,rfl,ho,hk,hw,hd⟩;have QP:=ab ho;have TG:=ab (Ug.out.bf hk hw);have SW:=ab hw;clear ho hk hw hd))
 clear hfd;obtain⟨x2,hx2⟩:∃x2,x2=v1.alloc (Obj.cells #[.int .i64 1,.int .u64 0,.int .u64 100] 37):=⟨_,rfl⟩
 have hB:Below v1.heap.size v1 x2:=by rw [hx2];exact ae _ _
 have Qf:=ab (TG.out.later hB)
 have Q1:Hid (Bq x2 N1 v1.heap.size [.int .i64 1,.int .u64 0,.int .u64 100]):=by rw [hx2];exact Bq.new TG.out.k [.int .i64 1,.int .u64 0,.int .u64 100] 37
 rw [<-hx2];clear hx2 hB TG P2;have p0:=Q1.out.x.cell 0 rfl
 have p1:=Q1.out.x.cell 1 rfl
 have p2:=Q1.out.x.cell 2 rfl
 have P2:Hid (Calls Tryz.prog 13 #[.pointer (some ⟨H.kb,0,none⟩),.agg #[.int .i64 3,.int .i64 0,.int .i64 0,.int .i64 1,.int .u64 0,.int .u64 100,.bool false,.int .i64 7,.int .i64 0,.int .i64 0,.slice none 0 0,.int .i64 0,.slice none 0 0]] x2 (bV x2 H N1 (⟨0,(1,0,200),[],0⟩,FW))):=gI (c:=JP) (dd:=⟨none,0,0⟩) (gg:=⟨none,0,0⟩) Qf.out HP.out ⟨⟨rfl,Nat.le_refl _,λ_=>⟨rfl,rfl⟩,λ_ h=>(by cases h),λ_ h=>(by cases h)⟩,R.RI.nil _,by decide,by decide⟩ (λh=>absurd h (by decide)) I9 rfl
 have hfd:∀(a:Option Addr) (n c:Nat) (U:World),(Instr.field 40 (dw ⟨0,(1,0,200),[],0⟩ a n c) 1).run Tryz.prog U=.ok (.agg #[.int .i64 1,.int .u64 0,.int .u64 200]) U:=λa n c U=>by kernel_rfl
 go_upto_region 7 with (first|(go_at_call 13;refine P2.out.mono ?_;rintro e v2 ⟨a2,n2,c2,N2,rfl,ho,hk,hw,hd⟩;have PS:=ab ho;have Rk:=ab (Qf.out.bf hk hw);have Qd:=ab hw;clear ho hk hw hd))
 clear p0 p1 p2;clear hfd;have Q1v:=ab (Q1.out.bf (by simp) Qd.out)
 clear Q1;obtain⟨x3,hx3⟩:∃x3,x3=v2.alloc (Obj.cells #[.int .i64 1,.int .u64 0,.int .u64 200] 37):=⟨_,rfl⟩
 have hB:Below v2.heap.size v2 x3:=by rw [hx3];exact ae _ _
 have Qq:=ab (Rk.out.later hB)
 have Q2:Hid (Bq x3 N2 v2.heap.size [.int .i64 1,.int .u64 0,.int .u64 200]):=by rw [hx3];exact Bq.new Rk.out.k [.int .i64 1,.int .u64 0,.int .u64 200] 37
 rw [<-hx3];have Q1vx:=ab (Q1v.out.later hB)
 clear Q1v;clear hx3 hB Rk P2;have p0:=Q1vx.out.x.cell 0 rfl
 have p1:=Q1vx.out.x.cell 1 rfl
 have p2:=Q1vx.out.x.cell 2 rfl
 have p3:=Q2.out.x.cell 0 rfl
 have p4:=Q2.out.x.cell 1 rfl
 have p5:=Q2.out.x.cell 2 rfl
 have P2:Hid (Calls Tryz.prog 13 #[.pointer (some ⟨H.kb,0,none⟩),.agg #[.int .i64 7,.int .i64 0,.int .i64 0,.int .i64 1,.int .u64 0,.int .u64 200,.bool false,.int .i64 0,.int .i64 0,.int .i64 0,.slice none 0 0,.int .i64 0,.slice none 0 0]] x3 (bV x3 H N2 (⟨0,(0,0,0),[],0⟩,Fc))):=gI (c:=J3) (dd:=⟨none,0,0⟩) (gg:=⟨none,0,0⟩) Qq.out HP.out ⟨⟨rfl,Nat.le_refl _,λ_=>⟨rfl,rfl⟩,λ_ h=>(by cases h),λ_ h=>(by cases h)⟩,R.RI.nil _,by decide,by decide⟩ (λh=>absurd h (by decide)) Ix rfl
 go_upto_region 8 with (first|(go_at_call 13;refine P2.out.mono ?_;rintro e v3 ⟨a3,n3,c3,N3,rfl,ho,hk,hw,hd⟩;have Rg:=ab ho;have RD:=ab (Qq.out.bf hk hw);have QR:=ab hw;clear ho hk hw hd))
 clear p0 p1 p2 p3 p4 p5;have Q1vxv:=ab (Q1vx.out.bf (by simp) QR.out)
 have Q2v:=ab (Q2.out.bf (by simp) QR.out)
 clear Q1vx Q2;clear P2;have p0:=Q1vxv.out.x.cell 0 rfl
 have p1:=Q1vxv.out.x.cell 1 rfl
 have p2:=Q1vxv.out.x.cell 2 rfl
 have p3:=Q2v.out.x.cell 0 rfl
 have p4:=Q2v.out.x.cell 1 rfl
 have p5:=Q2v.out.x.cell 2 rfl
 obtain⟨y4,hy4⟩:∃y4,y4=v3.alloc (Obj.cells #[.int .i64 0] 3):=⟨_,rfl⟩
 have hB4:Below v3.heap.size v3 y4:=by rw [hy4];exact ae _ _
 have SM:=ab (RD.out.later hB4)
 have hIs:R.Is y4 Jz ⟨none,0,0⟩ ⟨some ⟨v3.heap.size,0,none⟩,1,1⟩:=by
  refine⟨⟨rfl,Nat.le_refl _,λ_=>⟨rfl,rfl⟩,λ_ h=>(by cases h),λ_ h=>(by cases h)⟩,?_,by decide,by decide⟩
  rw [hy4];exact R.RI.one v3 0
 have UQ:=ab hy4
 have Q1vxvy4:=ab (Q1vxv.out.later hB4)
 have Q2vy4:=ab (Q2v.out.later hB4)
 clear Q1vxv Q2v;clear hB4 hy4;have P2:Hid (Calls Tryz.prog 13 #[.pointer (some ⟨H.kb,0,none⟩),.agg #[.int .i64 9,.int .i64 0,.int .i64 0,.int .i64 0,.int .u64 0,.int .u64 0,.bool false,.int .i64 0,.int .i64 0,.int .i64 0,.slice none 0 0,.int .i64 0,.slice (some ⟨v3.heap.size,0,none⟩) 1 1]] y4 (bV y4 H N3 (⟨0,(0,0,0),[],1⟩,Fu))):=gI (c:=Jz) (dd:=⟨none,0,0⟩) (gg:=⟨some ⟨v3.heap.size,0,none⟩,1,1⟩) SM.out HP.out hIs (λh=>absurd h (by decide)) Ij rfl
 have hfd:∀(a:Option Addr) (n c:Nat) (U:World),(Instr.field 40 (dw ⟨0,(0,0,0),[],1⟩ a n c) 3).run Tryz.prog U=.ok (.int .i64 1) U:=λa n c U=>by kernel_rfl
 go_upto_region 9 with (first|(go_at_call 13;rw [<-UQ.out];refine P2.out.mono ?_;rintro e v4 ⟨a4,n4,c4,N4,rfl,ho,hk,hw,hd⟩;have Xt:=ab ho;have VO:=ab (SM.out.bf hk hw);have Ss:=ab hw;clear ho hk hw hd))
 clear p0 p1 p2 p3 p4 p5;clear hfd;clear hIs;have Q1vxvy4v:=ab (Q1vxvy4.out.bf (by simp) Ss.out)
 have Q2vy4v:=ab (Q2vy4.out.bf (by simp) Ss.out)
 clear Q1vxvy4 Q2vy4;clear P2;have p0:=Q1vxvy4v.out.x.cell 0 rfl
 have p1:=Q1vxvy4v.out.x.cell 1 rfl
 have p2:=Q1vxvy4v.out.x.cell 2 rfl
 have p3:=Q2vy4v.out.x.cell 0 rfl
 have p4:=Q2vy4v.out.x.cell 1 rfl
 have p5:=Q2vy4v.out.x.cell 2 rfl
 have P2:Hid (Calls Tryz.prog 13 #[.pointer (some ⟨H.kb,0,none⟩),.agg #[.int .i64 9,.int .i64 0,.int .i64 0,.int .i64 0,.int .u64 0,.int .u64 0,.bool false,.int .i64 0,.int .i64 0,.int .i64 0,.slice none 0 0,.int .i64 0,.slice none 0 0]] v4 (bV v4 H N4 (⟨0,(0,0,0),[],2⟩,Gh))):=gI (c:=Kv) (dd:=⟨none,0,0⟩) (gg:=⟨none,0,0⟩) VO.out HP.out ⟨⟨rfl,Nat.le_refl _,λ_=>⟨rfl,rfl⟩,λ_ h=>(by cases h),λ_ h=>(by cases h)⟩,R.RI.nil _,by decide,by decide⟩ (λh=>absurd h (by decide)) Ie rfl
 have hfd:∀(a:Option Addr) (n c:Nat) (U:World),(Instr.field 40 (dw ⟨0,(0,0,0),[],2⟩ a n c) 3).run Tryz.prog U=.ok (.int .i64 2) U:=λa n c U=>by kernel_rfl
 go_upto_region 10 with (first|(go_at_call 13;refine P2.out.mono ?_;rintro e v5 ⟨a5,n5,c5,N5,rfl,ho,hk,hw,hd⟩;have RA:=ab ho;have VB:=ab (VO.out.bf hk hw);have TO:=ab hw;clear ho hk hw hd))
 clear p0 p1 p2 p3 p4 p5;clear hfd;have Q1vxvy4vv:=ab (Q1vxvy4v.out.bf (by simp) TO.out)
 have Q2vy4vv:=ab (Q2vy4v.out.bf (by simp) TO.out)
 clear Q1vxvy4v Q2vy4v;clear P2;have p0:=Q1vxvy4vv.out.x.cell 0 rfl
 have p1:=Q1vxvy4vv.out.x.cell 1 rfl
 have p2:=Q1vxvy4vv.out.x.cell 2 rfl
 have p3:=Q2vy4vv.out.x.cell 0 rfl
 have p4:=Q2vy4vv.out.x.cell 1 rfl
 have p5:=Q2vy4vv.out.x.cell 2 rfl
 obtain⟨y6,hy6⟩:∃y6,y6=v5.alloc (Obj.cells #[.int .u8 7,.int .u8 8] 5):=⟨_,rfl⟩
 have hB6:Below v5.heap.size v5 y6:=by rw [hy6];exact ae _ _
 have Vp:=ab (VB.out.later hB6)
 have hIs:R.Is y6 Hx ⟨some ⟨v5.heap.size,0,none⟩,2,2⟩ ⟨none,0,0⟩:=by
  refine⟨⟨rfl,Nat.le_refl _,λh=>(by cases h),λx hx j u hu=>?_,λx hx=>?_⟩,R.RI.nil _,by decide,by decide⟩
  ·cases hx
   rw [aQ,hy6];have e:R.bG Hx.data=[.int .u8 7,.int .u8 8]:=rfl
   rw [e] at hu;exact (S.aH v5 #[.int .u8 7,.int .u8 8] 5 j u (by simpa using hu)).1
  ·simp only [Hx,List.mem_cons,List.not_mem_nil,or_false] at hx
   rcases hx with rfl|rfl<;>decide
 have Uo:=ab hy6
 have Q1vxvy4vvy6:=ab (Q1vxvy4vv.out.later hB6)
 have Q2vy4vvy6:=ab (Q2vy4vv.out.later hB6)
 clear Q1vxvy4vv Q2vy4vv;clear hB6 hy6;have P2:Hid (Calls Tryz.prog 13 #[.pointer (some ⟨H.kb,0,none⟩),.agg #[.int .i64 6,.int .i64 1,.int .i64 0,.int .i64 1,.int .u64 0,.int .u64 0,.bool false,.int .i64 0,.int .i64 3,.int .i64 0,.slice (some ⟨v5.heap.size,0,none⟩) 2 2,.int .i64 0,.slice none 0 0]] y6 (bV y6 H N5 (⟨0,(0,0,0),[],0⟩,Fx))):=gI (c:=Hx) (dd:=⟨some ⟨v5.heap.size,0,none⟩,2,2⟩) (gg:=⟨none,0,0⟩) Vp.out HP.out hIs (λ_ j hj=>by rw [S.tC hj];exact VB.out.k.new (Nat.le_refl _)) IW rfl
 go_upto_region 11 with (first|(go_at_call 13;rw [<-Uo.out];refine P2.out.mono ?_;rintro e v6 ⟨a6,n6,c6,N6,rfl,ho,hk,hw,hd⟩;have XB:=ab ho;have UT:=ab (Vp.out.bf hk hw);have Uc:=ab hw;clear ho hk hw hd))
 clear p0 p1 p2 p3 p4 p5;clear hIs;have Q1vxvy4vvy6v:=ab (Q1vxvy4vvy6.out.bf (by simp) Uc.out)
 have Q2vy4vvy6v:=ab (Q2vy4vvy6.out.bf (by simp) Uc.out)
 clear Q1vxvy4vvy6 Q2vy4vvy6;obtain⟨x7,hx7⟩:∃x7,x7=v6.alloc (Obj.cells #[.int .i64 0,.int .i64 0,.int .u64 0,.int .u64 0,.slice a6 n6 c6,.int .i64 0] 40):=⟨_,rfl⟩
 have hB:Below v6.heap.size v6 x7:=by rw [hx7];exact ae _ _
 have Vm:=ab (UT.out.later hB)
 have Q6:Hid (Bq x7 N6 v6.heap.size [.int .i64 0,.int .i64 0,.int .u64 0,.int .u64 0,.slice a6 n6 c6,.int .i64 0]):=by rw [hx7];exact Bq.new UT.out.k [.int .i64 0,.int .i64 0,.int .u64 0,.int .u64 0,.slice a6 n6 c6,.int .i64 0] 40
 rw [<-hx7];have Q1vxvy4vvy6vx:=ab (Q1vxvy4vvy6v.out.later hB)
 have Q2vy4vvy6vx:=ab (Q2vy4vvy6v.out.later hB)
 clear Q1vxvy4vvy6v Q2vy4vvy6v;clear hx7 hB UT P2;have p0:=Q1vxvy4vvy6vx.out.x.cell 0 rfl
 have p1:=Q1vxvy4vvy6vx.out.x.cell 1 rfl
 have p2:=Q1vxvy4vvy6vx.out.x.cell 2 rfl
 have p3:=Q2vy4vvy6vx.out.x.cell 0 rfl
 have p4:=Q2vy4vvy6vx.out.x.cell 1 rfl
 have p5:=Q2vy4vvy6vx.out.x.cell 2 rfl
 have P2:Hid (Calls Tryz.prog 13 #[.pointer (some ⟨H.kb,0,none⟩),.agg #[.int .i64 5,.int .i64 2,.int .i64 0,.int .i64 1,.int .u64 0,.int .u64 200,.bool true,.int .i64 0,.int .i64 3,.int .i64 2,.slice none 0 0,.int .i64 0,.slice none 0 0]] x7 (bV x7 H N6 (⟨0,(0,0,0),[7,8],0⟩,GZ))):=gI (c:=Kj) (dd:=⟨none,0,0⟩) (gg:=⟨none,0,0⟩) Vm.out HP.out ⟨⟨rfl,Nat.le_refl _,λ_=>⟨rfl,rfl⟩,λ_ h=>(by cases h),λ_ h=>(by cases h)⟩,R.RI.nil _,by decide,by decide⟩ (λh=>absurd h (by decide)) Jb rfl
 go_upto_region 12 with (first|(go_at_call 13;refine P2.out.mono ?_;rintro e v7 ⟨a7,n7,c7,N7,rfl,ho,hk,hw,hd⟩;have Rf:=ab ho;have U5:=ab (Vm.out.bf hk hw);have Ur:=ab hw;have VG:=ab hd;clear ho hk hw hd))
 clear p0 p1 p2 p3 p4 p5;have Q1vxvy4vvy6vxv:=ab (Q1vxvy4vvy6vx.out.bf (by simp) Ur.out)
 have Q2vy4vvy6vxv:=ab (Q2vy4vvy6vx.out.bf (by simp) Ur.out)
 have Q6v:=ab (Q6.out.bf (by simp) Ur.out)
 clear Q1vxvy4vvy6vx Q2vy4vvy6vx Q6;have hn7:n7=2:=by have:=Rf.out.len;simpa [S.bG] using this.symm
 subst hn7;obtain⟨g7,rfl⟩:=Rf.out.form (by omega)
 have QC:Hid (Cq v7 N7 g7 1 (.int .u8 8)):=by
  have:=Rf.out.read.cells _ rfl 1 (.int .u8 8) rfl
  rw [aQ] at this;exact⟨this,VG.out g7 ⟨_,rfl,rfl⟩⟩
 clear Rf VG;obtain⟨x8,hx8⟩:∃x8,x8=v7.alloc (Obj.cells #[.int .i64 0,.int .i64 0,.int .u64 0,.int .u64 0,.slice (some ⟨g7,0,none⟩) 2 c7,.int .i64 0] 40):=⟨_,rfl⟩
 have hB:Below v7.heap.size v7 x8:=by rw [hx8];exact ae _ _
 have V9:=ab (U5.out.later hB)
 have Q7:Hid (Bq x8 N7 v7.heap.size [.int .i64 0,.int .i64 0,.int .u64 0,.int .u64 0,.slice (some ⟨g7,0,none⟩) 2 c7,.int .i64 0]):=by rw [hx8];exact Bq.new U5.out.k [.int .i64 0,.int .i64 0,.int .u64 0,.int .u64 0,.slice (some ⟨g7,0,none⟩) 2 c7,.int .i64 0] 40
 rw [<-hx8];have Q1vxvy4vvy6vxvx:=ab (Q1vxvy4vvy6vxv.out.later hB)
 have Q2vy4vvy6vxvx:=ab (Q2vy4vvy6vxv.out.later hB)
 have Q6vx:=ab (Q6v.out.later hB)
 have QCx:=ab (QC.out.later hB)
 clear Q1vxvy4vvy6vxv Q2vy4vvy6vxv Q6v QC;clear hx8 hB U5 P2;have p0:=Q1vxvy4vvy6vxvx.out.x.cell 0 rfl
 have p1:=Q1vxvy4vvy6vxvx.out.x.cell 1 rfl
 have p2:=Q1vxvy4vvy6vxvx.out.x.cell 2 rfl
 have p3:=Q2vy4vvy6vxvx.out.x.cell 0 rfl
 have p4:=Q2vy4vvy6vxvx.out.x.cell 1 rfl
 have p5:=Q2vy4vvy6vxvx.out.x.cell 2 rfl
 have P2:Hid (Calls Tryz.prog 13 #[.pointer (some ⟨H.kb,0,none⟩),.agg #[.int .i64 5,.int .i64 2,.int .i64 0,.int .i64 1,.int .u64 0,.int .u64 0,.bool false,.int .i64 0,.int .i64 3,.int .i64 2,.slice none 0 0,.int .i64 0,.slice none 0 0]] x8 (bV x8 H N7 (⟨3,(0,0,0),[],0⟩,GF))):=gI (c:=JX) (dd:=⟨none,0,0⟩) (gg:=⟨none,0,0⟩) V9.out HP.out ⟨⟨rfl,Nat.le_refl _,λ_=>⟨rfl,rfl⟩,λ_ h=>(by cases h),λ_ h=>(by cases h)⟩,R.RI.nil _,by decide,by decide⟩ (λh=>absurd h (by decide)) Js rfl
 go_upto_region 13 with (first|(go_at_call 13;refine P2.out.mono ?_;rintro e v8 ⟨a8,n8,c8,N8,rfl,ho,hk,hw,hd⟩;have Xu:=ab ho;have UH:=ab (V9.out.bf hk hw);have Ti:=ab hw;clear ho hk hw hd))
 clear p0 p1 p2 p3 p4 p5;have Q1vxvy4vvy6vxvxv:=ab (Q1vxvy4vvy6vxvx.out.bf (by simp) Ti.out)
 have Q2vy4vvy6vxvxv:=ab (Q2vy4vvy6vxvx.out.bf (by simp) Ti.out)
 have Q6vxv:=ab (Q6vx.out.bf (by simp) Ti.out)
 have QCxv:=ab (QCx.out.bf (by simp) Ti.out)
 have Q7v:=ab (Q7.out.bf (by simp) Ti.out)
 clear Q1vxvy4vvy6vxvx Q2vy4vvy6vxvx Q6vx QCx Q7;obtain⟨x9,hx9⟩:∃x9,x9=v8.alloc (Obj.cells #[.int .i64 3,.int .i64 0,.int .u64 0,.int .u64 0,.slice a8 n8 c8,.int .i64 0] 40):=⟨_,rfl⟩
 have hB:Below v8.heap.size v8 x9:=by rw [hx9];exact ae _ _
 have Vn:=ab (UH.out.later hB)
 have Q8:Hid (Bq x9 N8 v8.heap.size [.int .i64 3,.int .i64 0,.int .u64 0,.int .u64 0,.slice a8 n8 c8,.int .i64 0]):=by rw [hx9];exact Bq.new UH.out.k [.int .i64 3,.int .i64 0,.int .u64 0,.int .u64 0,.slice a8 n8 c8,.int .i64 0] 40
 rw [<-hx9];have Q1vxvy4vvy6vxvxvx:=ab (Q1vxvy4vvy6vxvxv.out.later hB)
 have Q2vy4vvy6vxvxvx:=ab (Q2vy4vvy6vxvxv.out.later hB)
 have Q6vxvx:=ab (Q6vxv.out.later hB)
 have QCxvx:=ab (QCxv.out.later hB)
 have Q7vx:=ab (Q7v.out.later hB)
 clear Q1vxvy4vvy6vxvxv Q2vy4vvy6vxvxv Q6vxv QCxv Q7v;clear hx9 hB UH P2;have p0:=Q1vxvy4vvy6vxvxvx.out.x.cell 0 rfl
 have p1:=Q1vxvy4vvy6vxvxvx.out.x.cell 1 rfl
 have p2:=Q1vxvy4vvy6vxvxvx.out.x.cell 2 rfl
 have p3:=Q2vy4vvy6vxvxvx.out.x.cell 0 rfl
 have p4:=Q2vy4vvy6vxvxvx.out.x.cell 1 rfl
 have p5:=Q2vy4vvy6vxvxvx.out.x.cell 2 rfl
 have P2:Hid (Calls Tryz.prog 13 #[.pointer (some ⟨H.kb,0,none⟩),.agg #[.int .i64 4,.int .i64 0,.int .i64 0,.int .i64 1,.int .u64 0,.int .u64 100,.bool false,.int .i64 0,.int .i64 0,.int .i64 0,.slice none 0 0,.int .i64 0,.slice none 0 0]] x9 (bV x9 H N8 (⟨0,(0,0,0),[],0⟩,E9))):=gI (c:=Kh) (dd:=⟨none,0,0⟩) (gg:=⟨none,0,0⟩) Vn.out HP.out ⟨⟨rfl,Nat.le_refl _,λ_=>⟨rfl,rfl⟩,λ_ h=>(by cases h),λ_ h=>(by cases h)⟩,R.RI.nil _,by decide,by decide⟩ (λh=>absurd h (by decide)) Jm rfl
 go_upto_region 14 with (first|(go_at_call 13;refine P2.out.mono ?_;rintro e v9 ⟨a9,n9,c9,N9,rfl,ho,hk,hw,hd⟩;have Xv:=ab ho;have U7:=ab (Vn.out.bf hk hw);have SN:=ab hw;clear ho hk hw hd))
 clear p0 p1 p2 p3 p4 p5;have Q1vxvy4vvy6vxvxvxv:=ab (Q1vxvy4vvy6vxvxvx.out.bf (by simp) SN.out)
 have Q2vy4vvy6vxvxvxv:=ab (Q2vy4vvy6vxvxvx.out.bf (by simp) SN.out)
 have Q6vxvxv:=ab (Q6vxvx.out.bf (by simp) SN.out)
 have QCxvxv:=ab (QCxvx.out.bf (by simp) SN.out)
 have Q7vxv:=ab (Q7vx.out.bf (by simp) SN.out)
 have Q8v:=ab (Q8.out.bf (by simp) SN.out)
 clear Q1vxvy4vvy6vxvxvx Q2vy4vvy6vxvxvx Q6vxvx QCxvx Q7vx Q8;obtain⟨x10,hx10⟩:∃x10,x10=v9.alloc (Obj.cells #[.int .i64 0,.int .i64 0,.int .u64 0,.int .u64 0,.slice a9 n9 c9,.int .i64 0] 40):=⟨_,rfl⟩
 have hB:Below v9.heap.size v9 x10:=by rw [hx10];exact ae _ _
 have TI:=ab (U7.out.later hB)
 have Q9:Hid (Bq x10 N9 v9.heap.size [.int .i64 0,.int .i64 0,.int .u64 0,.int .u64 0,.slice a9 n9 c9,.int .i64 0]):=by rw [hx10];exact Bq.new U7.out.k [.int .i64 0,.int .i64 0,.int .u64 0,.int .u64 0,.slice a9 n9 c9,.int .i64 0] 40
 rw [<-hx10];have Q1vxvy4vvy6vxvxvxvx:=ab (Q1vxvy4vvy6vxvxvxv.out.later hB)
 have Q2vy4vvy6vxvxvxvx:=ab (Q2vy4vvy6vxvxvxv.out.later hB)
 have Q6vxvxvx:=ab (Q6vxvxv.out.later hB)
 have QCxvxvx:=ab (QCxvxv.out.later hB)
 have Q7vxvx:=ab (Q7vxv.out.later hB)
 have Q8vx:=ab (Q8v.out.later hB)
 clear Q1vxvy4vvy6vxvxvxv Q2vy4vvy6vxvxvxv Q6vxvxv QCxvxv Q7vxv Q8v;clear hx10 hB U7 P2;have p0:=Q1vxvy4vvy6vxvxvxvx.out.x.cell 0 rfl
 have p1:=Q1vxvy4vvy6vxvxvxvx.out.x.cell 1 rfl
 have p2:=Q1vxvy4vvy6vxvxvxvx.out.x.cell 2 rfl
 have p3:=Q2vy4vvy6vxvxvxvx.out.x.cell 0 rfl
 have p4:=Q2vy4vvy6vxvxvxvx.out.x.cell 1 rfl
 have p5:=Q2vy4vvy6vxvxvxvx.out.x.cell 2 rfl
 have P2:Hid (Calls Tryz.prog 13 #[.pointer (some ⟨H.kb,0,none⟩),.agg #[.int .i64 5,.int .i64 2,.int .i64 0,.int .i64 1,.int .u64 0,.int .u64 200,.bool true,.int .i64 0,.int .i64 3,.int .i64 2,.slice none 0 0,.int .i64 0,.slice none 0 0]] x10 (bV x10 H N9 (⟨3,(0,0,0),[],0⟩,A0))):=gI (c:=GM) (dd:=⟨none,0,0⟩) (gg:=⟨none,0,0⟩) TI.out HP.out ⟨⟨rfl,Nat.le_refl _,λ_=>⟨rfl,rfl⟩,λ_ h=>(by cases h),λ_ h=>(by cases h)⟩,R.RI.nil _,by decide,by decide⟩ (λh=>absurd h (by decide)) G9 rfl
 go_upto_region 15 with (first|(go_at_call 13;refine P2.out.mono ?_;rintro e v10 ⟨a10,n10,GR,N10,rfl,ho,hk,hw,hd⟩;have Xq:=ab ho;have Sw:=ab (TI.out.bf hk hw);have QG:=ab hw;clear ho hk hw hd))
 clear p0 p1 p2 p3 p4 p5;have Q1vxvy4vvy6vxvxvxvxv:=ab (Q1vxvy4vvy6vxvxvxvx.out.bf (by simp) QG.out)
 have Q2vy4vvy6vxvxvxvxv:=ab (Q2vy4vvy6vxvxvxvx.out.bf (by simp) QG.out)
 have Q6vxvxvxv:=ab (Q6vxvxvx.out.bf (by simp) QG.out)
 have QCxvxvxv:=ab (QCxvxvx.out.bf (by simp) QG.out)
 have Q7vxvxv:=ab (Q7vxvx.out.bf (by simp) QG.out)
 have Q8vxv:=ab (Q8vx.out.bf (by simp) QG.out)
 have Q9v:=ab (Q9.out.bf (by simp) QG.out)
 clear Q1vxvy4vvy6vxvxvxvx Q2vy4vvy6vxvxvxvx Q6vxvxvx QCxvxvx Q7vxvx Q8vx Q9;obtain⟨x11,hx11⟩:∃x11,x11=v10.alloc (Obj.cells #[.int .i64 3,.int .i64 0,.int .u64 0,.int .u64 0,.slice a10 n10 GR,.int .i64 0] 40):=⟨_,rfl⟩
 have hB:Below v10.heap.size v10 x11:=by rw [hx11];exact ae _ _
 have TM:=ab (Sw.out.later hB)
 have Q10:Hid (Bq x11 N10 v10.heap.size [.int .i64 3,.int .i64 0,.int .u64 0,.int .u64 0,.slice a10 n10 GR,.int .i64 0]):=by rw [hx11];exact Bq.new Sw.out.k [.int .i64 3,.int .i64 0,.int .u64 0,.int .u64 0,.slice a10 n10 GR,.int .i64 0] 40
 rw [<-hx11];have Q1vxvy4vvy6vxvxvxvxvx:=ab (Q1vxvy4vvy6vxvxvxvxv.out.later hB)
 have Q2vy4vvy6vxvxvxvxvx:=ab (Q2vy4vvy6vxvxvxvxv.out.later hB)
 have Q6vxvxvxvx:=ab (Q6vxvxvxv.out.later hB)
 have QCxvxvxvx:=ab (QCxvxvxv.out.later hB)
 have Q7vxvxvx:=ab (Q7vxvxv.out.later hB)
 have Q8vxvx:=ab (Q8vxv.out.later hB)
 have Q9vx:=ab (Q9v.out.later hB)
 clear Q1vxvy4vvy6vxvxvxvxv Q2vy4vvy6vxvxvxvxv Q6vxvxvxv QCxvxvxv Q7vxvxv Q8vxv Q9v;clear hx11 hB Sw P2;have p0:=Q1vxvy4vvy6vxvxvxvxvx.out.x.cell 0 rfl
 have p1:=Q1vxvy4vvy6vxvxvxvxvx.out.x.cell 1 rfl
 have p2:=Q1vxvy4vvy6vxvxvxvxvx.out.x.cell 2 rfl
 have p3:=Q2vy4vvy6vxvxvxvxvx.out.x.cell 0 rfl
 have p4:=Q2vy4vvy6vxvxvxvxvx.out.x.cell 1 rfl
 have p5:=Q2vy4vvy6vxvxvxvxvx.out.x.cell 2 rfl
 have P2:Hid (Calls Tryz.prog 13 #[.pointer (some ⟨H.kb,0,none⟩),.agg #[.int .i64 5,.int .i64 1,.int .i64 0,.int .i64 1,.int .u64 0,.int .u64 0,.bool false,.int .i64 0,.int .i64 3,.int .i64 2,.slice none 0 0,.int .i64 0,.slice none 0 0]] x11 (bV x11 H N10 (⟨3,(0,0,0),[],0⟩,Il))):=gI (c:=Fv) (dd:=⟨none,0,0⟩) (gg:=⟨none,0,0⟩) TM.out HP.out ⟨⟨rfl,Nat.le_refl _,λ_=>⟨rfl,rfl⟩,λ_ h=>(by cases h),λ_ h=>(by cases h)⟩,R.RI.nil _,by decide,by decide⟩ (λh=>absurd h (by decide)) Fm rfl
 go_upto_region 16 with (first|(go_at_call 13;refine P2.out.mono ?_;rintro e v11 ⟨a11,n11,GO,N11,rfl,ho,hk,hw,hd⟩;have WV:=ab ho;have SB:=ab (TM.out.bf hk hw);have Qw:=ab hw;clear ho hk hw hd))
 clear p0 p1 p2 p3 p4 p5;have Q1vxvy4vvy6vxvxvxvxvxv:=ab (Q1vxvy4vvy6vxvxvxvxvx.out.bf (by simp) Qw.out)
 have Q2vy4vvy6vxvxvxvxvxv:=ab (Q2vy4vvy6vxvxvxvxvx.out.bf (by simp) Qw.out)
 have Q6vxvxvxvxv:=ab (Q6vxvxvxvx.out.bf (by simp) Qw.out)
 have QCxvxvxvxv:=ab (QCxvxvxvx.out.bf (by simp) Qw.out)
 have Q7vxvxvxv:=ab (Q7vxvxvx.out.bf (by simp) Qw.out)
 have Q8vxvxv:=ab (Q8vxvx.out.bf (by simp) Qw.out)
 have Q9vxv:=ab (Q9vx.out.bf (by simp) Qw.out)
 have Q10v:=ab (Q10.out.bf (by simp) Qw.out)
 clear Q1vxvy4vvy6vxvxvxvxvx Q2vy4vvy6vxvxvxvxvx Q6vxvxvxvx QCxvxvxvx Q7vxvxvx Q8vxvx Q9vx Q10;obtain⟨x12,hx12⟩:∃x12,x12=v11.alloc (Obj.cells #[.int .i64 3,.int .i64 0,.int .u64 0,.int .u64 0,.slice a11 n11 GO,.int .i64 0] 40):=⟨_,rfl⟩
 have hB:Below v11.heap.size v11 x12:=by rw [hx12];exact ae _ _
 have UY:=ab (SB.out.later hB)
 have Q11:Hid (Bq x12 N11 v11.heap.size [.int .i64 3,.int .i64 0,.int .u64 0,.int .u64 0,.slice a11 n11 GO,.int .i64 0]):=by rw [hx12];exact Bq.new SB.out.k [.int .i64 3,.int .i64 0,.int .u64 0,.int .u64 0,.slice a11 n11 GO,.int .i64 0] 40
 rw [<-hx12];have Q1vxvy4vvy6vxvxvxvxvxvx:=ab (Q1vxvy4vvy6vxvxvxvxvxv.out.later hB)
 have Q2vy4vvy6vxvxvxvxvxvx:=ab (Q2vy4vvy6vxvxvxvxvxv.out.later hB)
 have Q6vxvxvxvxvx:=ab (Q6vxvxvxvxv.out.later hB)
 have QCxvxvxvxvx:=ab (QCxvxvxvxv.out.later hB)
 have Q7vxvxvxvx:=ab (Q7vxvxvxv.out.later hB)
 have Q8vxvxvx:=ab (Q8vxvxv.out.later hB)
 have Q9vxvx:=ab (Q9vxv.out.later hB)
 have Q10vx:=ab (Q10v.out.later hB)
 clear Q1vxvy4vvy6vxvxvxvxvxv Q2vy4vvy6vxvxvxvxvxv Q6vxvxvxvxv QCxvxvxvxv Q7vxvxvxv Q8vxvxv Q9vxv Q10v;clear hx12 hB SB P2;have f0:=Q1vxvy4vvy6vxvxvxvxvxvx.out.x.cell 0 rfl
 have f1:=Q6vxvxvxvxvx.out.x.cell 0 rfl
 have f2:=QCxvxvxvxvx.out.x
 have f3:=Q7vxvxvxvx.out.x.cell 0 rfl
 have f4:=Q7vxvxvxvx.out.x.cell 4 rfl
 have f5:=Q8vxvxvx.out.x.cell 0 rfl
 have f6:=Q9vxvx.out.x.cell 0 rfl
 have f7:=Q10vx.out.x.cell 0 rfl
 have f8:=Q11.out.x.cell 0 rfl
 go_wp2;go_ret;exact⟨au (by simp),UY.out.b⟩
end
end Go.Proofs.YtffmodpgddecnaaGreatDoor.V
