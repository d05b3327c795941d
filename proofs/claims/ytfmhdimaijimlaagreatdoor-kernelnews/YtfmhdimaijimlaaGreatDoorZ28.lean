import Derived.Test.YtfmhdimaijimlaaGreatDoorZ27
import Derived.Test.YtfmhdimaijimlaaGreatDoorTie
import Derived.Test.YtfmhdimaijimlaaGreatDoorCards
import Derived.ProofKit
import Derived.OpenShut
import Derived.ChangeOld
import Derived.Below
import Derived.SizedLaws
import Derived.JoinedCond
import Derived.Lib.SmallJoins
import Derived.Deep.Strs
import Derived.ChangeSame
import Derived.ChangeVars
import Derived.JoinedOf
import Derived.LaidLaws
import Derived.LaidHandle
import Derived.Stop.Joined
import Derived.SevenTiedAt
set_option linter.all false
set_option maxRecDepth 1000000
set_option maxHeartbeats 8000000
open Go.Proofs.Tryz
variable {w w' w1 w2:Go.World}{n m k i j b g base kn:Nat}{a:Option Go.Addr}
namespace Go.Proofs.YtfmhdimaijimlaaGreatDoor.V
open Go.RowKit
open Go.Proofs.YtfmhdimaijimlaaGreatDoor.H (ak Cp)
section
def Hk (j:Nat):Nat:=[5,261,5,7,9].getD j 0
def CK:Cf:=⟨8,2,3,4,3,2,2,1,1,0⟩
def yt:Pm:=CK.pm 5 (λj=>D.cn (Hk j) CK.W)
def Ef:R.Cl:=⟨1,0,65,0,0,0,false,0,0,0,[],0,[]⟩
def DS:R.Cl:=⟨3,0,0,1,0,5,false,3,0,0,[],0,[]⟩
def yk:R.Cl:=⟨6,0,0,1,0,7,true,0,64,0,[9],0,[]⟩
def JU:R.Cl:=⟨5,0,0,1,0,7,true,0,60,5,[],0,[]⟩
def H_:aI:=wQ CK.m.toNat [0]
def FY:aI:=(fU yt H_ Ef).2
def Gd:aI:=(fU yt FY DS).2
def GK:aI:=(fU yt Gd yk).2
def Da:aI:=(fU yt GK JU).2
theorem H4:(fU yt H_ Ef).1=⟨0,(1,0,5),[],0⟩:=by kernel_rfl
theorem I4:(fU yt FY DS).1=⟨0,(1,0,7),[],0⟩:=by kernel_rfl
theorem Hx:(fU yt Gd yk).1=⟨0,(0,0,0),[],0⟩:=by kernel_rfl
theorem Jc:(fU yt GK JU).1=⟨0,(0,0,0),[0,0,0,0,9],0⟩:=by kernel_rfl
theorem Ge:(eE 4 Da).O.length=1/\(eE 4 Da).T.length=2/\(eE 4 Da).t=4:=⟨by kernel_rfl,by kernel_rfl,by kernel_rfl⟩
end
section
variable {w w':World}{H:Hd}{s s':aI}{N:Nat->Prop}{c:R.Cl}{dd gg:R.Sl}{r:cU}
theorem vF (hk:Kn w H s N)(hp:H.p=yt)(hi:R.Is w c dd gg)(hap:0<dd.n->∀j,aD dd.a j->¬N j)(hr:(fU yt s c).1=r)(hs:(fU yt s c).2=s') :
  Calls prog 13 #[.pointer (some ⟨H.kb,0,none⟩),.agg (R.cC c dd gg).toArray] w (cG w H N (r,s')):=by
 have:=AN hk hi hap
 rw [hp] at this
 rw [<-hr,<-hs]
 exact this
theorem wF (i:Nat):Hk i<ak*ak:=by
 unfold Hk
 match i with
 | 0=>decide
 | 1=>decide
 | 2=>decide
 | 3=>decide
 | 4=>decide
 | n+5=>simp;decide
theorem qV (hl:D.Laid w)(h0:0<w.heap.size):Calls prog 12 #[] w λe w'=>e=.returned (.bool true)/\Below w.heap.size w w':=by
 obtain⟨W1,hW1⟩:∃W1,W1=w.alloc (Obj.cells #[.int .i64 8,.int .i64 2,.int .i64 3,.int .i64 4,.int .i64 3,.int .i64 2,.int .i64 2,.int .i64 1,.int .i64 1,.int .i64 0] 23):=⟨_,rfl⟩
 obtain⟨W2,hW2⟩:∃W2,W2=W1.alloc (Obj.cells #[.int .u64 0,.int .u64 5,.int .u64 0,.int .u64 261,.int .u64 0,.int .u64 5,.int .u64 0,.int .u64 7,.int .u64 0,.int .u64 9] 31):=⟨_,rfl⟩
 have hB1:Below w.heap.size w W1:=by rw [hW1];exact ab _ _
 have hB2:Below W1.heap.size W1 W2:=by rw [hW2];exact ab _ _
 have hX:R.Bx W1 w.heap.size CK.L:=by rw [hW1];exact R.Bx.new w CK.L 23
 have HLd:=aa (Jo hX)
 have hws:D.Ws W2 (some ⟨W1.heap.size,0,none⟩) 5 5 Hk:=by
  refine⟨Nat.le_refl _,λh=>(by cases h),λx hx j u hu=>?_,wF⟩
  cases hx
  rw [nj,hW2]
  have e:D.pT Hk 5=[.int .u64 0,.int .u64 5,.int .u64 0,.int .u64 261,.int .u64 0,.int .u64 5,.int .u64 0,.int .u64 7,.int .u64 0,.int .u64 9]:=by kernel_rfl
  rw [e] at hu
  exact (S.aE W1 #[.int .u64 0,.int .u64 5,.int .u64 0,.int .u64 261,.int .u64 0,.int .u64 5,.int .u64 0,.int .u64 7,.int .u64 0,.int .u64 9] 31 j u (by simpa using hu)).1
 have HNew:=aa (bE CK (by kernel_rfl) (some ⟨W1.heap.size,0,none⟩) 5 5 Hk W2 hws (by omega) (cell_later hB2 (cell_later hB1 hl)) (by have:=hB1.size;have:=hB2.size;omega))
 have HB2:Hid (Below w.heap.size w W2):=al hB1 hB2
 have HW1:=aa hW1
 have HW2:=aa hW2
 clear hB1 hB2 hX hws hW1 hW2 hl h0
 go_enter func12,ntmps12
 go_upto_region 2 with fail
 rw [<-HW1.o]
 go_upto_region 5 with (first|((with_reducible refine R.aP HLd.o ?_ ?_);(· rfl))|(go_at_call 11;rw [<-HW2.o];refine HNew.o.mono ?_;rintro e w3 ⟨H,N,rfl,hk,hp,-,hN,hb⟩;have HK:=aa hk;have HP:Hid (H.p=yt):=hp;have HNn:=aa hN;have HB3:=aa hb;clear hk hp hN hb))
 have HDo1:Hid (Calls prog 13 #[.pointer (some ⟨H.kb,0,none⟩),.agg #[.int .i64 1,.int .i64 0,.int .i64 65,.int .i64 0,.int .u64 0,.int .u64 0,.bool false,.int .i64 0,.int .i64 0,.int .i64 0,.slice none 0 0,.int .i64 0,.slice none 0 0]] w3 (cG w3 H N (⟨0,(1,0,5),[],0⟩,FY))):=vF (c:=Ef) (dd:=⟨none,0,0⟩) (gg:=⟨none,0,0⟩) HK.o HP.o ⟨⟨rfl,Nat.le_refl _,λ_=>⟨rfl,rfl⟩,λ_ h=>(by cases h),λ_ h=>(by cases h)⟩,R.RI.nil _,by decide,by decide⟩ (λh=>absurd h (by decide)) H4 rfl
 go_upto_region 6 with (first|(go_at_call 13;refine HDo1.o.mono ?_;rintro e w4 ⟨a1,n1,c1,N4,rfl,ho,hk,hw,hd⟩;have HO4:=aa ho;have HV4:=aa hk;have HW4:=aa hw;clear ho hk hw hd))
 obtain⟨w5,hw5⟩:∃w5,w5=w4.alloc (Obj.cells #[.int .i64 0,.int .i64 1,.int .u64 0,.int .u64 5,.slice a1 n1 c1,.int .i64 0] 41):=⟨_,rfl⟩
 have HB5:Hid (Below w4.heap.size w4 w5):=by rw [hw5];exact ab _ _
 have HK4:=aa (HV4.o.later HB5.o)
 have HX1:Hid (R.Bx w5 w4.heap.size [.int .i64 0,.int .i64 1,.int .u64 0,.int .u64 5,.slice a1 n1 c1,.int .i64 0]):=by rw [hw5];exact R.Bx.new w4 [.int .i64 0,.int .i64 1,.int .u64 0,.int .u64 5,.slice a1 n1 c1,.int .i64 0] 41
 have HNb1:Hid (¬N4 w4.heap.size):=HV4.o.new (Nat.le_refl _)
 rw [<-hw5]
 clear hw5 HDo1
 have HDo2:Hid (Calls prog 13 #[.pointer (some ⟨H.kb,0,none⟩),.agg #[.int .i64 3,.int .i64 0,.int .i64 0,.int .i64 1,.int .u64 0,.int .u64 5,.bool false,.int .i64 3,.int .i64 0,.int .i64 0,.slice none 0 0,.int .i64 0,.slice none 0 0]] w5 (cG w5 H N4 (⟨0,(1,0,7),[],0⟩,Gd))):=vF (c:=DS) (dd:=⟨none,0,0⟩) (gg:=⟨none,0,0⟩) HK4.o HP.o ⟨⟨rfl,Nat.le_refl _,λ_=>⟨rfl,rfl⟩,λ_ h=>(by cases h),λ_ h=>(by cases h)⟩,R.RI.nil _,by decide,by decide⟩ (λh=>absurd h (by decide)) I4 rfl
 go_upto_region 7 with (first|(go_at_call 13;refine HDo2.o.mono ?_;rintro e w6 ⟨a2,n2,c2,N6,rfl,ho,hk,hw,hd⟩;have HO6:=aa ho;have HV6:=aa hk;have HW6:=aa hw;clear ho hk hw hd))
 obtain⟨w7,hw7⟩:∃w7,w7=w6.alloc (Obj.cells #[.int .i64 0,.int .i64 1,.int .u64 0,.int .u64 7,.slice a2 n2 c2,.int .i64 0] 41):=⟨_,rfl⟩
 have HB7:Hid (Below w6.heap.size w6 w7):=by rw [hw7];exact ab _ _
 have HK6:=aa (HV6.o.later HB7.o)
 have HX2:Hid (R.Bx w7 w6.heap.size [.int .i64 0,.int .i64 1,.int .u64 0,.int .u64 7,.slice a2 n2 c2,.int .i64 0]):=by rw [hw7];exact R.Bx.new w6 [.int .i64 0,.int .i64 1,.int .u64 0,.int .u64 7,.slice a2 n2 c2,.int .i64 0] 41
 have HNb2:Hid (¬N6 w6.heap.size):=HV6.o.new (Nat.le_refl _)
 rw [<-hw7]
 clear hw7 HDo2
 obtain⟨w8,hw8⟩:∃w8,w8=w7.alloc (Obj.cells #[.int .u8 9] 5):=⟨_,rfl⟩
 have HB8:Hid (Below w7.heap.size w7 w8):=by rw [hw8];exact ab _ _
 have HK6b:=aa (HK6.o.later HB8.o)
 have hIs:R.Is w8 yk ⟨some ⟨w7.heap.size,0,none⟩,1,1⟩ ⟨none,0,0⟩:=by
  refine⟨⟨rfl,Nat.le_refl _,λh=>(by cases h),λx hx j u hu=>?_,λx hx=>?_⟩,R.RI.nil _,by decide,by decide⟩
  ·cases hx
   rw [nj,hw8]
   have e:R.aM yk.data=[.int .u8 9]:=rfl
   rw [e] at hu
   exact (S.aE w7 #[.int .u8 9] 5 j u (by simpa using hu)).1
  ·simp only [yk,List.mem_singleton] at hx
   subst hx
   decide
 have HW8:=aa hw8
 clear hw8
 have HDo3:Hid (Calls prog 13 #[.pointer (some ⟨H.kb,0,none⟩),.agg #[.int .i64 6,.int .i64 0,.int .i64 0,.int .i64 1,.int .u64 0,.int .u64 7,.bool true,.int .i64 0,.int .i64 64,.int .i64 0,.slice (some ⟨w7.heap.size,0,none⟩) 1 1,.int .i64 0,.slice none 0 0]] w8 (cG w8 H N6 (⟨0,(0,0,0),[],0⟩,GK))):=vF (c:=yk) (dd:=⟨some ⟨w7.heap.size,0,none⟩,1,1⟩) (gg:=⟨none,0,0⟩) HK6b.o HP.o hIs (λ_ j hj=>by rw [S.sU hj];exact HK6.o.new (Nat.le_refl _)) Hx rfl
 go_upto_region 8 with (first|(go_at_call 13;rw [<-HW8.o];refine HDo3.o.mono ?_;rintro e w9 ⟨a3,n3,c3,N9,rfl,ho,hk,hw,hd⟩;have HO9:=aa ho;have HV9:=aa hk;have HW9:=aa hw;clear ho hk hw hd))
 obtain⟨w10,hw10⟩:∃w10,w10=w9.alloc (Obj.cells #[.int .i64 0,.int .i64 0,.int .u64 0,.int .u64 0,.slice a3 n3 c3,.int .i64 0] 41):=⟨_,rfl⟩
 have HB10:Hid (Below w9.heap.size w9 w10):=by rw [hw10];exact ab _ _
 have HK9:=aa (HV9.o.later HB10.o)
 have HX3:Hid (R.Bx w10 w9.heap.size [.int .i64 0,.int .i64 0,.int .u64 0,.int .u64 0,.slice a3 n3 c3,.int .i64 0]):=by rw [hw10];exact R.Bx.new w9 [.int .i64 0,.int .i64 0,.int .u64 0,.int .u64 0,.slice a3 n3 c3,.int .i64 0] 41
 have HNb3:Hid (¬N9 w9.heap.size):=HV9.o.new (Nat.le_refl _)
 rw [<-hw10]
 clear hw10 HDo3
 have HDo4:Hid (Calls prog 13 #[.pointer (some ⟨H.kb,0,none⟩),.agg #[.int .i64 5,.int .i64 0,.int .i64 0,.int .i64 1,.int .u64 0,.int .u64 7,.bool true,.int .i64 0,.int .i64 60,.int .i64 5,.slice none 0 0,.int .i64 0,.slice none 0 0]] w10 (cG w10 H N9 (⟨0,(0,0,0),[0,0,0,0,9],0⟩,Da))):=vF (c:=JU) (dd:=⟨none,0,0⟩) (gg:=⟨none,0,0⟩) HK9.o HP.o ⟨⟨rfl,Nat.le_refl _,λ_=>⟨rfl,rfl⟩,λ_ h=>(by cases h),λ_ h=>(by cases h)⟩,R.RI.nil _,by decide,by decide⟩ (λh=>absurd h (by decide)) Jc rfl
 go_upto_region 9 with (first|(go_at_call 13;refine HDo4.o.mono ?_;rintro e w11 ⟨a4,n4,c4,N11,rfl,ho,hk,hw,hd⟩;have HO11:=aa ho;have HV11:=aa hk;have HW11:=aa hw;clear ho hk hw hd))
 obtain⟨w12,hw12⟩:∃w12,w12=w11.alloc (Obj.cells #[.int .i64 0,.int .i64 0,.int .u64 0,.int .u64 0,.slice a4 n4 c4,.int .i64 0] 41):=⟨_,rfl⟩
 have HB12:Hid (Below w11.heap.size w11 w12):=by rw [hw12];exact ab _ _
 have HK11:=aa (HV11.o.later HB12.o)
 have HX4:Hid (R.Bx w12 w11.heap.size [.int .i64 0,.int .i64 0,.int .u64 0,.int .u64 0,.slice a4 n4 c4,.int .i64 0]):=by rw [hw12];exact R.Bx.new w11 [.int .i64 0,.int .i64 0,.int .u64 0,.int .u64 0,.slice a4 n4 c4,.int .i64 0] 41
 have HNb4:Hid (¬N11 w11.heap.size):=HV11.o.new (Nat.le_refl _)
 rw [<-hw12]
 clear hw12 HDo4
 have hn4:n4=5:=by have:=HO11.o.len;simpa [S.aM] using this.symm
 subst hn4
 obtain⟨g4,rfl⟩:=HO11.o.form (by omega)
 have HSt:Hid (Calls prog 17 #[.pointer (some ⟨H.kb,0,none⟩)] w12 λe w'=>∃q1 e1 q2 e2 q3 m3 e3 x y,e=.returned (Eb q1 1 e1 q2 2 e2 q3 m3 e3 x y 4)/\Below w12.heap.size w12 w'):=by
  obtain⟨d,hd,ht,hf,hW⟩:=HK11.o
  have hm:H.mo=4:=by have:H.p.mo=_:=congrArg Pm.mo HP.o;exact this
  refine (j8 hd hf).mono ?_
  rw [hm]
  rintro e w' ⟨q1,e1,Q1,q2,e2,q3,e3,Q3,rfl,hT,hb⟩
  rw [Ge.1,Ge.2.1,Ge.2.2]
  exact⟨q1,e1,q2,e2,q3,_,e3,_,_,rfl,hb⟩
 go_upto_region 10 with (first|(go_at_call 17;refine HSt.o.mono ?_;rintro e w13 ⟨q1,e1,q2,e2,q3,m3,e3,x,y,rfl,hb⟩;have HB13:=aa hb;clear hb))
 obtain⟨w14,hw14⟩:∃w14,w14=w13.alloc (Obj.cells #[.slice q1 1 e1,.slice q2 2 e2,.slice q3 m3 e3,.int .i64 x,.int .i64 y,.int .i64 4] 53):=⟨_,rfl⟩
 have hX5:R.Bx w14 w13.heap.size [.slice q1 1 e1,.slice q2 2 e2,.slice q3 m3 e3,.int .i64 x,.int .i64 y,.int .i64 4]:=by rw [hw14];exact R.Bx.new w13 [.slice q1 1 e1,.slice q2 2 e2,.slice q3 m3 e3,.int .i64 x,.int .i64 y,.int .i64 4] 53
 have HB14:Hid (Below w13.heap.size w13 w14):=by rw [hw14];exact ab _ _
 rw [<-hw14]
 have l1:w4.heap.size<w5.heap.size:=HX1.o.lt (by simp)
 have l2:w6.heap.size<w7.heap.size:=HX2.o.lt (by simp)
 have s5:=HW6.o.size
 have s7:=HB7.o.size
 have s8:=HB8.o.size
 have B1214:Below w12.heap.size w12 w14:=al HB13.o HB14.o
 have n61:¬N6 w4.heap.size:=HW6.o.out l1 HNb1.o
 have n91:¬N9 w4.heap.size:=HW9.o.out (by omega) n61
 have n92:¬N9 w6.heap.size:=HW9.o.out (by omega) HNb2.o
 have hX1:=R.Bx.later B1214 (R.Bx.later HB12.o (R.Bx.but HW11.o.2 (R.Bx.later HB10.o (R.Bx.but HW9.o.2 (R.Bx.later (al HB7.o HB8.o) (R.Bx.but HW6.o.2 HX1.o HNb1.o)) n61)) n91))
 have hX2:=R.Bx.later B1214 (R.Bx.later HB12.o (R.Bx.but HW11.o.2 (R.Bx.later HB10.o (R.Bx.but HW9.o.2 (R.Bx.later HB8.o HX2.o) HNb2.o)) n92))
 have hX3:=R.Bx.later B1214 (R.Bx.later HB12.o (R.Bx.but HW11.o.2 HX3.o HNb3.o))
 have hX4:=R.Bx.later B1214 HX4.o
 have p10:=hX1.cell 0 rfl
 have p13:=hX1.cell 3 rfl
 have p20:=hX2.cell 0 rfl
 have p23:=hX2.cell 3 rfl
 have p30:=hX3.cell 0 rfl
 have p44:=hX4.cell 4 rfl
 have p50:=hX5.cell 0 rfl
 have p51:=hX5.cell 1 rfl
 have p55:=hX5.cell 5 rfl
 have pd:=(HO11.o.later (al HB12.o B1214)).read.cells _ rfl 4 (.int .u8 9) rfl
 rw [nj] at pd
 have HBA:Hid (Below w.heap.size w w14):=by
  have h2:=HB2.o
  have h3:Below w.heap.size w w3:=al h2 HB3.o
  have k0:∀k,N k->w.heap.size<=k:=λk hk=>Nat.le_trans h2.size (HNn.o k hk)
  have h4:Below w.heap.size w w4:=ae.below h3 HW4.o.2 k0
  have k4:∀k,N4 k->w.heap.size<=k:=λk hk=>by rcases HW4.o.1 k hk with h|h;exact k0 k h;exact Nat.le_trans h3.size h
  have h5:=al h4 HB5.o
  have h6:Below w.heap.size w w6:=ae.below h5 HW6.o.2 k4
  have k6:∀k,N6 k->w.heap.size<=k:=λk hk=>by rcases HW6.o.1 k hk with h|h;exact k4 k h;exact Nat.le_trans h5.size h
  have h8:=al h6 (al HB7.o HB8.o)
  have h9:Below w.heap.size w w9:=ae.below h8 HW9.o.2 k6
  have k9:∀k,N9 k->w.heap.size<=k:=λk hk=>by rcases HW9.o.1 k hk with h|h;exact k6 k h;exact Nat.le_trans h8.size h
  have h10:=al h9 HB10.o
  have h11:Below w.heap.size w w11:=ae.below h10 HW11.o.2 k9
  exact al h11 (al HB12.o B1214)
 clear hw14 hX5 l1 l2 s5 s7 s8 B1214 n61 n91 n92 hX1 hX2 hX3 hX4 hIs
 go_wp2
 go_ret
 exact⟨cW (by simp),HBA.o⟩
end
open Go.ChangeShapes Go.WideShapes Go.ChangeAt Go.RowKit Go.Joins
theorem Jw:ownKnob prog.godebug=none:=by kernel_rfl
theorem laidOut:laidOutB prog=true:=by kernel_rfl
theorem vm:prog.cellsOf 31=2:=by kernel_rfl
theorem Bw:prog.cellsOf 29=1:=by kernel_rfl
theorem uz:prog.cellsOf 3=1:=by kernel_rfl
theorem Gg:prog.cellsOf 4=1:=by kernel_rfl
theorem Eh:prog.cellsOf 38=3:=by kernel_rfl
theorem C2:prog.cellsOf 45=13:=by kernel_rfl
theorem Ep:prog.cellsOf 23=10:=by kernel_rfl
theorem EL:prog.cellsOf 39=1:=by kernel_rfl
theorem Dw:prog.cellsOf 43=1:=by kernel_rfl
theorem FW:prog.bytesOf 3=8:=by kernel_rfl
theorem F_:prog.bytesOf 5=1:=by kernel_rfl
theorem DM:prog.bytesOf 45=136:=by kernel_rfl
def Reads {H:Type}(d:DataW H)(len:Nat):Prop:=(d=.nil/\len=0)\/∃xs ys,d=.slice xs ys/\xs.length=len
theorem Reads.weight {H:Type}{d:DataW H}{len:Nat}(h:Reads d len){t e:TypeId}(ht:prog.underlying t=some (.slice e))(hw:∀n∈d.weights prog t,n<=reachBytes):len*prog.bytesOf e<=reachBytes:=by
 rcases h with ⟨_,rfl⟩|⟨xs,ys,rfl,rfl⟩
 ·simp
 ·have:=hw ((xs.length+ys.length)*prog.bytesOf e) (by simp [DataW.weights,ht])
  exact Nat.le_trans (Nat.mul_le_mul_right _ (by omega)) this
theorem uZ {H:Type}{e:TypeId}{d:DataW H}:∀{l:List (DataW H)},d∈l->∀n∈d.weights prog e,n∈DataW.weightsAll prog e l
 | x::r,h,n,hn=>by
  simp only [DataW.weightsAll,List.mem_append]
  rcases List.mem_cons.1 h with rfl|h
  ·exact .inl hn
  ·exact .inr (uZ h n hn)
 | [],h,_,_=>by cases h
theorem zT {hi lo:Int}(h1:0<=hi)(h2:hi<18446744073709551616)(h3:0<=lo)(h4:lo<18446744073709551616):∃N,N<ak*ak/\D.cR N=hi/\D.cT N=lo:=by
 have hB:ak=18446744073709551616:=rfl
 have l1:hi.toNat<ak:=by omega
 have l2:lo.toNat<ak:=by omega
 refine⟨ak*hi.toNat+lo.toNat,?_,?_,?_⟩
 ·have:ak*hi.toNat<=ak*(ak - 1):=Nat.mul_le_mul_left _ (by omega)
  have e:ak*(ak - 1)+ak=ak*ak:=by decide
  omega
 ·unfold D.cR
  rw [Nat.mul_add_div (by decide),Nat.div_eq_of_lt l2]
  omega
 ·unfold D.cT
  rw [Nat.mul_add_mod,Nat.mod_eq_of_lt l2]
  omega
theorem sG {H:Type}{enc:TypeId×Value->H}{W:World}{spare:Nat->Bool}{held:Bool}{x:Addr}{y:DataW H×List MemPlace}
  (h:(W.cells? base x 2).bind (DataW.trod enc prog W base spare held n 31)=some y) :
  ∃N,N<ak*ak/\∀c u,(D.yo N)[c]?=some u->W.cell? (x.add c)=some u:=by
 rw [Option.bind_eq_some_iff] at h
 obtain⟨cs,hcs,hy⟩:=h
 obtain⟨_,hlen,hcell⟩:=World.cells?_some hcs
 obtain⟨y0,y1,m,_,_,h0,h1⟩:=trod_struct2 underlying31 hy
 match cs,hlen with
 | [c0,c1],_ =>
  simp [Bw] at h0 h1
  obtain⟨k0,e0,_,w0⟩:=DataW.trod_int underlying29 h0
  obtain⟨k1,e1,_,w1⟩:=DataW.trod_int underlying29 h1
  simp at e0 e1
  subst e0 e1
  have b0:=bounds_u64 w0
  have b1:=bounds_u64 w1
  obtain⟨N,hN,e2,e3⟩:=zT (hi:=k0) (lo:=k1) (by omega) (by omega) (by omega) (by omega)
  refine⟨N,hN,λc u hu=>?_⟩
  have hc:c<2:=(gS.1 hu).1
  rw [hcell c hc,<-hu]
  simp only [D.yo,e2,e3]
theorem tL {H:Type}{enc:TypeId×Value->H}{W:World}{r:Reach}{v:Value}{d:DataW H}{p:List MemPlace}(hv:Value.okWide prog W r base 28 v)(h:DataW.Trod enc prog W 0 (λ_=>true) true 28 v d p) :
  ∃a len cap f,v=.slice a len cap/\D.Ws W a len cap f/\Reads d len:=by
 obtain⟨a,len,cap,rfl⟩:=okWide_slice underlying28 hv
 obtain⟨fuel,hf⟩:=h
 rcases DataW.trod_slice underlying28 hf with ⟨hcs,hx⟩|⟨x,l,c,elems,rest,n,_,hcs,hx,_,hl,hm,hlen,hel,_,_⟩
 ·simp [Value.cells] at hcs
  obtain⟨rfl,rfl,rfl⟩:=hcs
  simp only [Prod.mk.injEq] at hx
  exact⟨none,0,0,λ_=>0,rfl,⟨Nat.le_refl _,λ_=>⟨rfl,rfl⟩,λ_ h=>(by cases h),λ_=>by decide⟩,.inl ⟨hx.1,rfl⟩⟩
 ·simp [Value.cells] at hcs
  obtain⟨rfl,rfl,rfl⟩:=hcs
  simp only [Prod.mk.injEq] at hx
  have each:∀i,∃N:Nat,N<ak*ak/\(i<len->∀c u,(D.yo N)[c]?=some u->W.cell? ((x.add (i*2)).add c)=some u):=by
   intro i
   by_cases hi:i<len
   ·have he:=hel i hi
    rw [vm,gE (by omega)] at he
    obtain⟨N,h1,h2⟩:=sG he
    exact⟨N,h1,λ_=>h2⟩
   ·exact⟨0,by decide,λh=>absurd h hi⟩
  obtain⟨f,hf⟩:=Classical.axiomOfChoice each
  refine⟨some x,len,cap,f,rfl,⟨hl,(λh=>by cases h),?_,λi=>(hf i).1⟩,.inr ⟨_,_,hx.1,by simp;omega⟩⟩
  intro y hy j u hu
  cases hy
  have hj:j<len*2:=by have:=(gS.1 hu).1;rwa [D.bN] at this
  have hq:=D.fH f len (j / 2) (j%2) (by omega) (by omega)
  have hjj:j / 2*2+j%2=j:=by omega
  rw [hjj] at hq
  rw [hq] at hu
  have hc:=(hf (j / 2)).2 (by omega) (j%2) u hu
  rw [Deep.add_add,hjj] at hc
  exact hc
theorem GZ {W:World}{x:Addr}{len cap:Nat}{zs:List Int}(hl:len<=cap)(hz:zs.length=cap)(hcell:∀i,i<zs.length->W.cell? (x.add i)=some (.int .u8 (zs.getD i 0)))(hwz:∀n∈zs,(Lit.int .u8 n).wf=true) :
  R.Row W (some x) len cap ((zs.take len).map Int.toNat):=by
 have hb:∀n∈zs,0<=n/\n<256:=λn hn=>by have:=bounds_u8 (hwz _ hn);omega
 refine⟨by simp;omega,hl,(λh=>by cases h),?_,?_⟩
 ·intro y hy j u hu
  cases hy
  have hj:j<len:=by
   have:=(gS.1 hu).1
   simp [R.aM] at this
   omega
  have hjz:j<zs.length:=by omega
  rw [hcell j hjz,List.getD_eq_getElem?_getD,gE hjz]
  simp only [R.aM,List.getElem?_map,List.getElem?_take_of_lt hj,gE hjz,Option.map_some,Option.some.injEq] at hu
  rw [<-hu]
  have:=hb _ (List.getElem_mem hjz)
  simp
  omega
 ·intro n hn
  simp only [List.mem_map] at hn
  obtain⟨m,hm,rfl⟩:=hn
  have:=hb m (List.mem_of_mem_take hm)
  omega
theorem Hu {W:World}{x:Addr}{len cap:Nat}{zs:List Int}(hl:len<=cap)(hz:zs.length=cap)(hcell:∀i,i<zs.length->W.cell? (x.add i)=some (.int .i64 (zs.getD i 0))) :
  R.RI W (some x) len cap (zs.take len):=by
 refine⟨by simp;omega,hl,(λh=>by cases h),?_⟩
 intro y hy j u hu
 cases hy
 have hj:j<len:=by
  have:=(gS.1 hu).1
  simp [R.ue] at this
  omega
 have hjz:j<zs.length:=by omega
 rw [hcell j hjz,List.getD_eq_getElem?_getD,gE hjz]
 simp only [R.ue,List.getElem?_map,List.getElem?_take_of_lt hj,gE hjz,Option.map_some,Option.some.injEq] at hu
 rw [<-hu]
 simp
theorem v_ {H:Type}{enc:TypeId×Value->H}{W:World}{fuel:Nat}{v:Value}{x:DataW H×List MemPlace}(hf:DataW.trod enc prog W 0 (λ_=>true) true fuel 39 [v]=some x) :
  ∃(s:R.Sl) (L:List Nat),v=s.v/\R.Row W s.a s.n s.c L/\Reads x.1 s.n:=by
 rcases open_ints underlying39 underlying5 (by kernel_rfl) hf with ⟨hcs,hx⟩|⟨x,l,c,zs,hcs,_,hl,hm,hz,hx,hcell,hwz⟩
 ·simp at hcs
  subst hcs hx
  exact⟨⟨none,0,0⟩,[],rfl,R.dY W,.inl ⟨rfl,rfl⟩⟩
 ·simp at hcs
  subst hcs hx
  simp only [if_true] at hz
  exact⟨⟨_,_,_⟩,_,rfl,GZ hl hz hcell hwz,.inr ⟨_,_,rfl,by simp [lits];omega⟩⟩
theorem tF {H:Type}{enc:TypeId×Value->H}{W:World}{fuel:Nat}{v:Value}{x:DataW H×List MemPlace}(hf:DataW.trod enc prog W 0 (λ_=>true) true fuel 43 [v]=some x) :
  ∃(s:R.Sl) (L:List Int),v=s.v/\R.RI W s.a s.n s.c L/\Reads x.1 s.n:=by
 rcases open_ints underlying43 underlying3 (by kernel_rfl) hf with ⟨hcs,hx⟩|⟨x,l,c,zs,hcs,_,hl,hm,hz,hx,hcell,hwz⟩
 ·simp at hcs
  subst hcs hx
  exact⟨⟨none,0,0⟩,[],rfl,R.RI.nil W,.inl ⟨rfl,rfl⟩⟩
 ·simp at hcs
  subst hcs hx
  simp only [if_true] at hz
  exact⟨⟨_,_,_⟩,_,rfl,Hu hl hz hcell,.inr ⟨_,_,rfl,by simp [lits];omega⟩⟩
theorem tG {H:Type}{enc:TypeId×Value->H}{W:World}{c0 c1 c2:Value}{y:DataW H×List MemPlace}
  (h:DataW.trod enc prog W 0 (λ_=>true) true n 38 [c0,c1,c2]=some y) :
  ∃(o:Int) (hi lo:Nat),c0=.int .i64 o/\c1=.int .u64 (hi:Int)/\c2=.int .u64 (lo:Int)/\hi<18446744073709551616/\lo<18446744073709551616:=by
 obtain⟨y0,y1,m,hx,_,h0,h1⟩:=trod_struct2 underlying38 h
 simp [uz,vm] at h0 h1
 obtain⟨z0,z1,m2,hy,_,g0,g1⟩:=trod_struct2 underlying31 h1
 simp [Bw] at g0 g1
 obtain⟨o,e0,_,w0⟩:=DataW.trod_int underlying3 h0
 obtain⟨a,e1,_,w1⟩:=DataW.trod_int underlying29 g0
 obtain⟨b,e2,_,w2⟩:=DataW.trod_int underlying29 g1
 simp at e0 e1 e2
 subst e0 e1 e2
 have b1:=bounds_u64 w1
 have b2:=bounds_u64 w2
 exact⟨o,a.toNat,b.toNat,rfl,by rw [Int.toNat_of_nonneg (by omega)],by rw [Int.toNat_of_nonneg (by omega)],by omega,by omega⟩
def One {H:Type}(W:World)(x:Addr)(d:DataW H)(c:R.Cl)(dd gg:R.Sl):Prop :=
 (∀j v,(R.cC c dd gg)[j]?=some v->W.cell? (x.add j)=some v)/\R.Is W c dd gg/\((∀q∈d.weights prog 45,q<=reachBytes)->dd.n<=reachBytes/\gg.n*8<=reachBytes)
theorem sK {H:Type}{enc:TypeId×Value->H}{W:World}{x:Addr}{y:DataW H×List MemPlace}
  (h:(W.cells? 0 x 13).bind (DataW.trod enc prog W 0 (λ_=>true) true n 45)=some y):∃c dd gg,One W x y.1 c dd gg:=by
 rw [Option.bind_eq_some_iff] at h
 obtain⟨l,hcs,hy⟩:=h
 obtain⟨_,hlen,hcell⟩:=World.cells?_some hcs
 obtain⟨xs,m,_,hx,hl,hlx,hfs⟩:=DataW.trod_struct underlying45 hy
 match l,hlen with
 | [c0,c1,c2,c3,c4,c5,c6,c7,c8,c9,JF,JB,ID],_ =>
  match xs,hlx with
  | [y0,y1,y2,y3,y4,y5,y6,y7,y8,y9,y10],_ =>
   have f0:=hfs 0 _ rfl
   have f1:=hfs 1 _ rfl
   have f2:=hfs 2 _ rfl
   have f3:=hfs 3 _ rfl
   have f4:=hfs 4 _ rfl
   have f5:=hfs 5 _ rfl
   have f6:=hfs 6 _ rfl
   have f7:=hfs 7 _ rfl
   have f8:=hfs 8 _ rfl
   have f9:=hfs 9 _ rfl
   have f10:=hfs 10 _ rfl
   simp [Value.cells,uz,Gg,Eh,EL,Dw] at f0 f1 f2 f3 f4 f5 f6 f7 f8 f9 f10
   obtain⟨o0,e0,_,w0⟩:=DataW.trod_int underlying3 f0
   obtain⟨o1,e1,_,w1⟩:=DataW.trod_int underlying3 f1
   obtain⟨o2,e2,_,w2⟩:=DataW.trod_int underlying3 f2
   obtain⟨o,hi,lo,rfl,rfl,rfl,b1,b2⟩:=tG f3
   obtain⟨gv,e4,_⟩:=DataW.trod_bool underlying4 f4
   obtain⟨o5,e5,_,w5⟩:=DataW.trod_int underlying3 f5
   obtain⟨o6,e6,_,w6⟩:=DataW.trod_int underlying3 f6
   obtain⟨o7,e7,_,w7⟩:=DataW.trod_int underlying3 f7
   obtain⟨s,D,rfl,hR,hRd⟩:=v_ f8
   obtain⟨o9,e9,_,w9⟩:=DataW.trod_int underlying3 f9
   obtain⟨g,G,rfl,hG,hGd⟩:=tF f10
   simp at e0 e1 e2 e4 e5 e6 e7 e9
   subst e0 e1 e2 e4 e5 e6 e7 e9
   refine⟨⟨o0,o1,o2,o,hi,lo,gv,o5,o6,o7,D,o9,G⟩,s,g,λj v hv=>?_,⟨hR,hG,b1,b2⟩,λhw=>?_⟩
   ·have hj:j<13:=(gS.1 hv).1
    rw [hcell j hj]
    exact hv
   ·rw [hx] at hw
    have hw1:∀q∈y8.1.weights prog 39,q<=reachBytes:=λq hq=>hw q (by
     simp only [DataW.weights,underlying45]
     exact DataW.weights_mem_each (ts:=[3,3,3,38,4,3,3,3,39,3,43]) (ds:=[y0.1,y1.1,y2.1,y3.1,y4.1,y5.1,y6.1,y7.1,y8.1,y9.1,y10.1]) (j:=8) (t:=39) (d:=y8.1) rfl rfl q hq)
    have hw2:∀q∈y10.1.weights prog 43,q<=reachBytes:=λq hq=>hw q (by
     simp only [DataW.weights,underlying45]
     exact DataW.weights_mem_each (ts:=[3,3,3,38,4,3,3,3,39,3,43]) (ds:=[y0.1,y1.1,y2.1,y3.1,y4.1,y5.1,y6.1,y7.1,y8.1,y9.1,y10.1]) (j:=10) (t:=43) (d:=y10.1) rfl rfl q hq)
    have h1:=hRd.weight underlying39 hw1
    have h2:=hGd.weight underlying43 hw2
    rw [F_] at h1
    rw [FW] at h2
    exact⟨by omega,h2⟩
theorem mT:reachBytes<=140737488355328:=by decide
theorem sY {H:Type}{enc:TypeId×Value->H}{W:World}{r:Reach}{v:Value}{d:DataW H}{p:List MemPlace}(hv:Value.okWide prog W r base 25 v)(h:DataW.Trod enc prog W 0 (λ_=>true) true 25 v d p)
  (hw:∀q∈d.weights prog 25,q<=reachBytes) :
  ∃a n cap C D' G',v=.slice a n cap/\Cz W a n C D' G'/\n*136<=140737488355328:=by
 obtain⟨a,len,cap,rfl⟩:=okWide_slice underlying25 hv
 obtain⟨fuel,hf⟩:=h
 rcases DataW.trod_slice underlying25 hf with ⟨hcs,hx⟩|⟨x,l,c,elems,rest,n,_,hcs,hx,_,hl,hm,hlen,hel,_,_⟩
 ·simp [Value.cells] at hcs
  obtain⟨rfl,rfl,rfl⟩:=hcs
  exact⟨none,0,0,[],λ_=>.nil,λ_=>.nil,rfl,⟨rfl,λh=>absurd h (by omega),λi c h=>by simp at h⟩,by omega⟩
 ·simp [Value.cells] at hcs
  obtain⟨rfl,rfl,rfl⟩:=hcs
  simp only [Prod.mk.injEq] at hx
  have hd:d=.slice (elems.map (·.1)) (rest.map (·.1)):=hx.1
  have each:∀i,∃q:R.Cl×R.Sl×R.Sl,∀h:i<len,One W (x.add (i*13)) (elems[i]'(by omega)).1 q.1 q.2.1 q.2.2:=by
   intro i
   by_cases hi:i<len
   ·have he:=hel i hi
    rw [C2,gE (by omega)] at he
    obtain⟨c,dd,gg,h1⟩:=sK he
    exact⟨⟨c,dd,gg⟩,λ_=>h1⟩
   ·exact⟨⟨R.clz 0 0,.nil,.nil⟩,λh=>absurd h hi⟩
  obtain⟨f,hf⟩:=Classical.axiomOfChoice each
  have hwe:∀i (h:i<len),∀q∈(elems[i]'(by omega)).1.weights prog 45,q<=reachBytes:=λi h q hq=>hw q (by
   rw [hd]
   simp only [DataW.weights,underlying25,List.mem_cons,List.mem_append]
   have hm:=uZ (e:=45) (d:=(elems[i]'(by omega)).1) (l:=elems.map (·.1)) (List.mem_map.2 ⟨_,List.getElem_mem _,rfl⟩) q hq
   simp [hm])
  have hget:∀i c,((List.range len).map λi=>(f i).1)[i]?=some c->i<len/\c=(f i).1:=by
   intro i c h
   have hi:i<len:=by have:=(gS.1 h).1;simpa using this
   rw [List.getElem?_map,List.getElem?_range hi] at h
   exact⟨hi,by simpa using h.symm⟩
  have hn:=Reads.weight (d:=d) (len:=len) (.inr ⟨_,_,hd,by simp;omega⟩) underlying25 hw
  rw [DM] at hn
  refine⟨some x,len,cap,(List.range len).map λi=>(f i).1,λi=>(f i).2.1,λi=>(f i).2.2,rfl,⟨by simp,λh0=>?_,λi c h=>?_⟩,Nat.le_trans hn mT⟩
  ·obtain⟨b,o,spot⟩:=x
   have h1:=(hf 0 h0).1 0 _ rfl
   have hs:spot=none:=by simpa [Addr.add] using World.cell?_spot h1
   subst hs
   refine⟨b,o,rfl,λi c h j v hv=>?_⟩
   obtain⟨hi,rfl⟩:=hget i c h
   have:=(hf i hi).1 j v hv
   rw [aV,aV] at this
   exact this
  ·obtain⟨hi,rfl⟩:=hget i c h
   have h3:=(hf i hi).2.2 (hwe i hi)
   exact⟨(hf i hi).2.1,Nat.le_trans h3.1 mT,Nat.le_trans h3.2 mT⟩
theorem qG {H:Type}{enc:TypeId×Value->H}{W:World}{r:Reach}{v:Value}{d:DataW H}{p:List MemPlace}(hv:Value.okWide prog W r b 23 v)(h:DataW.Trod enc prog W 0 (λ_=>true) true 23 v d p) :
  ∃c:Cf,v=c.v:=by
 obtain⟨cs,rfl,hsz⟩:=okWide_struct underlying23 hv
 rw [Ep] at hsz
 obtain⟨l⟩:=cs
 obtain⟨fuel,hf⟩:=h
 obtain⟨xs,n,_,hx,hl,hlen,hfs⟩:=DataW.trod_struct underlying23 hf
 match l,hsz with
 | [c0,c1,c2,c3,c4,c5,c6,c7,c8,c9],_ =>
  match xs,hlen with
  | [y0,y1,y2,y3,y4,y5,y6,y7,y8,y9],_ =>
   have f0:=hfs 0 _ rfl
   have f1:=hfs 1 _ rfl
   have f2:=hfs 2 _ rfl
   have f3:=hfs 3 _ rfl
   have f4:=hfs 4 _ rfl
   have f5:=hfs 5 _ rfl
   have f6:=hfs 6 _ rfl
   have f7:=hfs 7 _ rfl
   have f8:=hfs 8 _ rfl
   have f9:=hfs 9 _ rfl
   simp [Value.cells,uz] at f0 f1 f2 f3 f4 f5 f6 f7 f8 f9
   obtain⟨o0,e0,_,w0⟩:=DataW.trod_int underlying3 f0
   obtain⟨o1,e1,_,w1⟩:=DataW.trod_int underlying3 f1
   obtain⟨o2,e2,_,w2⟩:=DataW.trod_int underlying3 f2
   obtain⟨o3,e3,_,w3⟩:=DataW.trod_int underlying3 f3
   obtain⟨o4,e4,_,w4⟩:=DataW.trod_int underlying3 f4
   obtain⟨o5,e5,_,w5⟩:=DataW.trod_int underlying3 f5
   obtain⟨o6,e6,_,w6⟩:=DataW.trod_int underlying3 f6
   obtain⟨o7,e7,_,w7⟩:=DataW.trod_int underlying3 f7
   obtain⟨o8,e8,_,w8⟩:=DataW.trod_int underlying3 f8
   obtain⟨o9,e9,_,w9⟩:=DataW.trod_int underlying3 f9
   simp at e0 e1 e2 e3 e4 e5 e6 e7 e8 e9
   subst e0 e1 e2 e3 e4 e5 e6 e7 e8 e9
   exact⟨⟨o0,o1,o2,o3,o4,o5,o6,o7,o8,o9⟩,rfl⟩
theorem et:prog.globalNamed "errors.errorType"=some 0:=by kernel_rfl
theorem rt:(prog.cutTypes.find? (·.1== "internal/reflectlite.rtype")).map (·.2)=some 340:=by kernel_rfl
theorem G0:((List.range prog.types.size).filter λt=>prog.rowNamed t [101,114,114,111,114])=[247]:=by kernel_rfl
def xN:List (String×DataW Unit):=[("errors.errorType",Rows.laid_errors_errorType)]
theorem lU {W:World}(h:laidMetH prog xN W):D.Laid W:=by
 have h':laidMet prog [] W/\handlesMet prog xN W:=h
 obtain⟨name,u,ty,e1,e2,e3,e4,e5⟩:=h'.2 _ (List.mem_singleton.2 rfl)
 have en:name=[101,114,114,111,114]:=(Option.some.inj e1).symm
 subst en
 obtain rfl:=Option.some.inj (rt.symm.trans e2)
 have hm:ty∈(List.range prog.types.size).filter λt=>prog.rowNamed t [101,114,114,111,114]:=List.mem_filter.2 ⟨List.mem_range.2 e3,e4⟩
 rw [G0] at hm
 obtain rfl:=List.mem_singleton.1 hm
 have hh:typeHandle prog 247=.pointer (some ⟨1,247,none⟩):=by kernel_rfl
 rw [hh] at e5
 simpa [D.Laid] using World.var?_cell et e5 0
theorem BY {W:World}(h:D.Laid W):0<W.heap.size:=World.block_lt_of_cell? _ _ h
noncomputable def oE (os:_root_.Go.Os):World :=
 let w0:=World.holding prog os ⟨#[],#[],[]⟩
 {w0 with heap:=w0.heap.modify 0 fun
   | .cells _ t frozen=>.cells #[.iface 340 (.agg #[.pointer (some ⟨1,247,none⟩)])] t frozen
   | o=>o }
theorem nc (os:_root_.Go.Os)(args:Array Value):laidMetH prog xN ((oE os).forCall (λ_ _=>0) ⟨#[],args,[]⟩).memory :=
 laidMetH_of_parts (laidMet_nil _ _) (by kernel_rfl)
end Go.Proofs.YtfmhdimaijimlaaGreatDoor.V
