import Derived.Test.YtfmhdimaijimlaaGreatDoorZN0
set_option linter.all false
set_option maxRecDepth 1000000
set_option maxHeartbeats 8000000
open Go.Proofs.Tryz
variable {w w' w1 w2:Go.World}{n m k i j b g base kn:Nat}{a:Option Go.Addr}
namespace Go.Proofs.YtfmhdimaijimlaaGreatDoor.V
open Go.RowKit
open Go.Proofs.YtfmhdimaijimlaaGreatDoor.H (ak Cp)
section
variable {w w':World}
theorem inR_any (n a b:Int)(w:World):Calls prog 41 #[.int .i64 n,.int .i64 a,.int .i64 b] w λe w'=>e=.returned (.bool (j1 n a b))/\w'=w:=by
 by_cases h:a<=n
 ·have hd:decide (a<=n)=true:=dT h
  have hd2:decide (n>=a)=true:=dT h
  obtain⟨q,hq⟩:∃q,q=decide (n<=b):=⟨_,rfl⟩
  have e:j1 n a b=q:=by unfold j1;rw [hd,hq];simp
  have HQ:=aa hq
  rw [e]
  clear e hq h
  go_enter func41,ntmps41
  go_wp2
  rw [<-HQ.o]
  go_ret
  exact⟨cW (by simp),rfl⟩
 ·have hd:decide (a<=n)=false:=dF h
  have hd2:decide (n>=a)=false:=dF h
  have e:j1 n a b=false:=by unfold j1;rw [hd];rfl
  rw [e]
  clear e h
  go_enter func41,ntmps41
  go_wp2
  go_ret
  exact⟨cW (by simp),rfl⟩
theorem rmay_any (c:Cf)(w:World):Calls prog 21 #[c.v] w λe w'=>e=.returned (.bool c.may)/\Below w.heap.size w w':=by
 obtain⟨W,o,p,m,q,r,l,s,y,k⟩:=c
 unfold Cf.v Cf.L
 cases F0:j1 W 1 128 with
 | false =>
  have E:Hid (Cf.may ⟨W,o,p,m,q,r,l,s,y,k⟩=false):=by unfold Hid Cf.may;simp only [F0,Bool.true_and,Bool.false_and,Bool.and_false,Bool.and_true]
  go_enter func21,ntmps21
  go_wp2_with (first|(go_at_call 41;refine (inR_any _ _ _ _).mono ?_;rintro e w1 ⟨rfl,rfl⟩;simp only [F0]))
  go_ret
  exact⟨cW E.out.symm,ab _ _⟩
 | true =>
  cases F1:j1 o 1 64 with
  | false =>
   have E:Hid (Cf.may ⟨W,o,p,m,q,r,l,s,y,k⟩=false):=by unfold Hid Cf.may;simp only [F0,F1,Bool.true_and,Bool.false_and,Bool.and_false,Bool.and_true]
   go_enter func21,ntmps21
   go_wp2_with (first|(go_at_call 41;refine (inR_any _ _ _ _).mono ?_;rintro e w1 ⟨rfl,rfl⟩;simp only [F0,F1]))
   go_ret
   exact⟨cW E.out.symm,ab _ _⟩
  | true =>
   cases F2:j1 p 1 256 with
   | false =>
    have E:Hid (Cf.may ⟨W,o,p,m,q,r,l,s,y,k⟩=false):=by unfold Hid Cf.may;simp only [F0,F1,F2,Bool.true_and,Bool.false_and,Bool.and_false,Bool.and_true]
    go_enter func21,ntmps21
    go_wp2_with (first|(go_at_call 41;refine (inR_any _ _ _ _).mono ?_;rintro e w1 ⟨rfl,rfl⟩;simp only [F0,F1,F2]))
    go_ret
    exact⟨cW E.out.symm,ab _ _⟩
   | true =>
    cases F3:j1 m 1 256 with
    | false =>
     have E:Hid (Cf.may ⟨W,o,p,m,q,r,l,s,y,k⟩=false):=by unfold Hid Cf.may;simp only [F0,F1,F2,F3,Bool.true_and,Bool.false_and,Bool.and_false,Bool.and_true]
     go_enter func21,ntmps21
     go_wp2_with (first|(go_at_call 41;refine (inR_any _ _ _ _).mono ?_;rintro e w1 ⟨rfl,rfl⟩;simp only [F0,F1,F2,F3]))
     go_ret
     exact⟨cW E.out.symm,ab _ _⟩
    | true =>
     cases F4:j1 q 1 256 with
     | false =>
      have E:Hid (Cf.may ⟨W,o,p,m,q,r,l,s,y,k⟩=false):=by unfold Hid Cf.may;simp only [F0,F1,F2,F3,F4,Bool.true_and,Bool.false_and,Bool.and_false,Bool.and_true]
      go_enter func21,ntmps21
      go_wp2_with (first|(go_at_call 41;refine (inR_any _ _ _ _).mono ?_;rintro e w1 ⟨rfl,rfl⟩;simp only [F0,F1,F2,F3,F4]))
      go_ret
      exact⟨cW E.out.symm,ab _ _⟩
     | true =>
      cases F5:j1 r 1 32 with
      | false =>
       have E:Hid (Cf.may ⟨W,o,p,m,q,r,l,s,y,k⟩=false):=by unfold Hid Cf.may;simp only [F0,F1,F2,F3,F4,F5,Bool.true_and,Bool.false_and,Bool.and_false,Bool.and_true]
       go_enter func21,ntmps21
       go_wp2_with (first|(go_at_call 41;refine (inR_any _ _ _ _).mono ?_;rintro e w1 ⟨rfl,rfl⟩;simp only [F0,F1,F2,F3,F4,F5]))
       go_ret
       exact⟨cW E.out.symm,ab _ _⟩
      | true =>
       cases F6:j1 l 1 32 with
       | false =>
        have E:Hid (Cf.may ⟨W,o,p,m,q,r,l,s,y,k⟩=false):=by unfold Hid Cf.may;simp only [F0,F1,F2,F3,F4,F5,F6,Bool.true_and,Bool.false_and,Bool.and_false,Bool.and_true]
        go_enter func21,ntmps21
        go_wp2_with (first|(go_at_call 41;refine (inR_any _ _ _ _).mono ?_;rintro e w1 ⟨rfl,rfl⟩;simp only [F0,F1,F2,F3,F4,F5,F6]))
        go_ret
        exact⟨cW E.out.symm,ab _ _⟩
       | true =>
        cases F7:j1 s 0 16 with
        | false =>
         have E:Hid (Cf.may ⟨W,o,p,m,q,r,l,s,y,k⟩=false):=by unfold Hid Cf.may;simp only [F0,F1,F2,F3,F4,F5,F6,F7,Bool.true_and,Bool.false_and,Bool.and_false,Bool.and_true]
         go_enter func21,ntmps21
         go_wp2_with (first|(go_at_call 41;refine (inR_any _ _ _ _).mono ?_;rintro e w1 ⟨rfl,rfl⟩;simp only [F0,F1,F2,F3,F4,F5,F6,F7]))
         go_ret
         exact⟨cW E.out.symm,ab _ _⟩
        | true =>
         cases F8:j1 y 1 4 with
         | false =>
          have E:Hid (Cf.may ⟨W,o,p,m,q,r,l,s,y,k⟩=false):=by unfold Hid Cf.may;simp only [F0,F1,F2,F3,F4,F5,F6,F7,F8,Bool.true_and,Bool.false_and,Bool.and_false,Bool.and_true]
          go_enter func21,ntmps21
          go_wp2_with (first|(go_at_call 41;refine (inR_any _ _ _ _).mono ?_;rintro e w1 ⟨rfl,rfl⟩;simp only [F0,F1,F2,F3,F4,F5,F6,F7,F8]))
          go_ret
          exact⟨cW E.out.symm,ab _ _⟩
         | true =>
          cases F9:j1 k 0 64 with
          | false =>
           have E:Hid (Cf.may ⟨W,o,p,m,q,r,l,s,y,k⟩=false):=by unfold Hid Cf.may;simp only [F0,F1,F2,F3,F4,F5,F6,F7,F8,F9,Bool.true_and,Bool.false_and,Bool.and_false,Bool.and_true]
           go_enter func21,ntmps21
           go_wp2_with (first|(go_at_call 41;refine (inR_any _ _ _ _).mono ?_;rintro e w1 ⟨rfl,rfl⟩;simp only [F0,F1,F2,F3,F4,F5,F6,F7,F8,F9]))
           go_ret
           exact⟨cW E.out.symm,ab _ _⟩
          | true =>
           have E:Hid (Cf.may ⟨W,o,p,m,q,r,l,s,y,k⟩=true):=by unfold Hid Cf.may;simp only [F0,F1,F2,F3,F4,F5,F6,F7,F8,F9,Bool.true_and,Bool.false_and,Bool.and_false,Bool.and_true]
           go_enter func21,ntmps21
           go_wp2_with (first|(go_at_call 41;refine (inR_any _ _ _ _).mono ?_;rintro e w1 ⟨rfl,rfl⟩;simp only [F0,F1,F2,F3,F4,F5,F6,F7,F8,F9]))
           go_ret
           exact⟨cW E.out.symm,ab _ _⟩
end
section
variable {w w':World}{H:Hd}{s:aI}{N:Nat->Prop}
theorem ldK (h:Kb w H){c:Cf}(hc:H.cf=c.L):(Instr.loadAt 23 (.pointer (some ⟨H.kb,0,none⟩))).run prog w=.ok c.v w:=by
 have hr:w.rangeAt H.kb 0 c.L:=λj v hv=>by
  have hj:j<H.cf.length:=by rw [hc];exact (gS.1 hv).1
  have:=h j v (by unfold Hd.kc;rw [List.getElem?_append_left hj,hc];exact hv)
  simpa using this
 have:=run_loadVar_mid (P:=prog) w H.kb 0 23 c.L _ hr underlying23 rfl (by rw [show (prog.info? 23).map (·.size)=some 10 by kernel_rfl];rfl)
 simp [Instr.loadAt,Instr.sureAddr,this]
theorem kconf_any (h:Kn w H s N){c:Cf}(hc:H.cf=c.L):Calls prog 24 #[.pointer (some ⟨H.kb,0,none⟩)] w λe w'=>e=.returned c.v/\Below w.heap.size w w':=by
 obtain⟨d,hd,_⟩:=h
 have hk:=hd.kb
 obtain⟨W,hW⟩:∃W,W=w.alloc (Obj.cells [.int .i64 0,.int .i64 0,.int .i64 0,.int .i64 0,.int .i64 0,.int .i64 0,.int .i64 0,.int .i64 0,.int .i64 0,.int .i64 0].toArray 23):=⟨_,rfl⟩
 have HB:Hid (Below w.heap.size w W):=by rw [hW];exact ab _ _
 have hX:R.Bx W w.heap.size [.int .i64 0,.int .i64 0,.int .i64 0,.int .i64 0,.int .i64 0,.int .i64 0,.int .i64 0,.int .i64 0,.int .i64 0,.int .i64 0]:=by rw [hW];exact R.Bx.new w _ _
 have HLd:=aa (ldK (hk.but (S:=λ_=>False) (ae.of HB.o) (λh=>h)) hc)
 have HSt:=aa (Bx.JO hX rfl c)
 have HLv:=aa (Bx.JP hX rfl c)
 have HW:=aa hW
 clear hW hX hk hd
 go_enter func24,ntmps24
 go_upto_region 1 with fail
 have hW:W=w.alloc (Obj.cells #[.int .i64 0,.int .i64 0,.int .i64 0,.int .i64 0,.int .i64 0,.int .i64 0,.int .i64 0,.int .i64 0,.int .i64 0,.int .i64 0] 23):=HW.o
 rw [<-hW]
 clear hW HW
 go_wp2_with (first|((with_reducible refine R.aP HLd.o ?_ ?_);(· rfl))|((with_reducible refine aY HSt.o ?_ ?_ ?_);(· rfl);(· rfl)))
 exact bodyPost_ret (v:=c.v) (by simp [results,results24,asAddr,Act.put,HLv.o]) rfl ⟨rfl,ae.below HB.o (R.iK (S:=(·=w.heap.size)) rfl _ 0 (ae.refl _ _)) (λk e=>by omega)⟩
structure M0 (w:World)(c:Cf)(b g:Nat):Prop where
 box:∃d:Value,R.Bx w b (c.L++[d,.int .i64 0,.slice none 0 0,.slice none 0 0,.slice (some ⟨g,0,none⟩) 1 1,.int .i64 1,.int .i64 1,.int .i64 1])
 n:w.cell? ⟨g,0,none⟩=some (.int .i64 0)
 l:w.cell? ⟨g,1,none⟩=some (.slice none 0 0)
theorem rnew_any (c:Cf)(w:World):Calls prog 22 #[c.v,.slice none 0 0] w λe w'=>∃b g,e=.returned (.pointer (some ⟨b,0,none⟩))/\M0 w' c b g/\Below w.heap.size w w':=by
 obtain⟨W,o,p,m,q,r,l,s,y,k⟩:=c
 have key:∀(U:World) (d:Value) (g B:Nat) (A:Array Value),A=(Cf.L ⟨W,o,p,m,q,r,l,s,y,k⟩++[d,.int .i64 0,.slice none 0 0,.slice none 0 0,.slice (some ⟨g,0,none⟩) 1 1,.int .i64 1,.int .i64 1,.int .i64 1]).toArray->B=U.heap.size->Below w.heap.size w U->U.cell? ⟨g,0,none⟩=some (.int .i64 0)->U.cell? ⟨g,1,none⟩=some (.slice none 0 0) ->
   M0 (U.alloc (Obj.cells A 102)).drew ⟨W,o,p,m,q,r,l,s,y,k⟩ B g/\Below w.heap.size w (U.alloc (Obj.cells A 102)).drew:=by
  intro U d g B A hA hB0 hb h1 h2
  subst hB0
  have hB:=(ab U (Obj.cells A 102)).drew
  refine⟨⟨⟨d,?_⟩,cell_later hB h1,cell_later hB h2⟩,al hb hB⟩
  subst hA
  exact R.Bx.later (Below.refl _ _).drew (R.Bx.new U _ _)
 have HKey:=aa key
 clear key
 unfold Cf.v Cf.L
 go_enter func22,ntmps22
 go_upto_region 1 with fail
 go_region
 all_goals
  go_wp2
  go_ret
  refine⟨_,_,rfl,HKey.o _ _ _ _ _ rfl (by simp) ?_ ?_ ?_⟩
  ·exact al (ab _ _) (aw _ _ _)
  ·simp [go_sem]
  ·simp [go_sem]
end
open Go.Proofs.YtfmhdimaijimlaaGreatDoor.M (bh)
section
variable {w w':World}{H:Hd}{s:aI}{N:Nat->Prop}
theorem ldS9 {a1:Option Addr}{n1 c1:Nat}{a2:Option Addr}{n2 c2:Nat}{a3:Option Addr}{n3 c3:Nat}{x y z:Int}(h:R.Bx w b (stM a1 n1 c1 a2 n2 c2 a3 n3 c3 x y z)):(Instr.loadAt 53 (.pointer (some ⟨b,0,none⟩))).run prog w=.ok (Eb a1 n1 c1 a2 n2 c2 a3 n3 c3 x y z) w:=by
 have:=run_loadVar_mid (P:=prog) w b 0 53 (stM a1 n1 c1 a2 n2 c2 a3 n3 c3 x y z) _ h.range underlying53 rfl (by rw [Bg];rfl)
 simp [Instr.loadAt,Instr.sureAddr,this,stM]
theorem caps_none (w:World):∃a' c' w3,(Builtin.append_ #[57,57] 57 #[.slice (some ⟨w.heap.size,0,none⟩) 0 0,.slice none 0 0]).run prog (w.alloc (Obj.cells #[] 38))=.ok (.slice a' 0 c') w3/\Ow w3 w.heap.size 38 3 a' 0 c' []/\Below w.heap.size w w3:=by
 have hB:=ab w (Obj.cells #[] 38)
 have hO:=A5 w 38 3
 obtain⟨a',c',w3,hrun,hO3,hG⟩:=eY 57 38 _ 3 24 underlying57 j5 rfl (by omega) (by omega) hO (⟨rfl,λ_=>⟨rfl,rfl⟩,λx h=>(by cases h),λu h=>(by cases h)⟩:Cr (w.alloc (Obj.cells #[] 38)) 3 none 0 0 []) hB.size (by omega)
 exact⟨a',c',w3,hrun,hO3,ae.below hB hG.but (λk hk=>(hO.bD k hk).1)⟩
def PrD (w:World)(bszq:Nat)(U:World):Prop:=∃(a3:Option Addr) (c3:Nat) (lazq:Option Addr) (lc:Nat),R.Bx U bszq (stM none 0 0 none 0 0 a3 1 c3 1 1 0)/\ed U (w.heap.size+1) 59 38 3 a3 1 c3 [⟨0,[],0,lazq,lc⟩]/\Zr U w.heap.size/\Below w.heap.size w U
def PrR (w:World)(bszq:Nat)(W3:World)(v:Value)(U:World):Prop:=(v=.int .i64 0/\W3=U)\/(v=.int .i64 1/\PrD w bszq U)
theorem rstate_new {c:Cf}(h:M0 w c b g):Calls prog 23 #[.pointer (some ⟨b,0,none⟩)] w (oO w ⟨[],[],[(0,[])],1,1,0⟩):=by
 obtain⟨⟨d,hb⟩,h1,h2⟩:=h
 obtain⟨W,o,p,m,q,r,l,s,y,k⟩:=c
 obtain⟨W1,hW1⟩:∃W1,W1=w.alloc z53:=⟨_,rfl⟩
 obtain⟨W2,hW2⟩:∃W2,W2=W1.alloc z53:=⟨_,rfl⟩
 have HB1:Hid (Below w.heap.size w W1):=by rw [hW1];exact ab _ _
 have HB2:Hid (Below W1.heap.size W1 W2):=by rw [hW2];exact ab _ _
 have HBx:=aa (R.Bx.later HB1.o hb)
 have HM5:Hid (∀U,Below w.heap.size w U->R.Bx U b (Cf.L ⟨W,o,p,m,q,r,l,s,y,k⟩++[d,.int .i64 0,.slice none 0 0,.slice none 0 0,.slice (some ⟨g,0,none⟩) 1 1,.int .i64 1,.int .i64 1,.int .i64 1])):=λU hU=>R.Bx.later hU hb
 have m2:=HBx.o.cell 11 rfl
 have m6:=HBx.o.cell 15 rfl
 have m7zq:=HBx.o.cell 16 rfl
 have p2:(W1.alloc z53).cell? ⟨b,11,none⟩=some (.int .i64 0):=by rw [<-hW2];exact cell_later HB2.o m2
 have p6zq:(W1.alloc z53).cell? ⟨b,15,none⟩=some (.int .i64 1):=by rw [<-hW2];exact cell_later HB2.o m6
 have p7zq:(W1.alloc z53).cell? ⟨b,16,none⟩=some (.int .i64 1):=by rw [<-hW2];exact cell_later HB2.o m7zq
 have HW1:=aa hW1
 have HW2:=aa hW2
 have HBl:Hid (b<w.heap.size/\g<w.heap.size):=⟨hb.lt (by simp [Cf.L]),World.block_lt_of_cell? _ _ h1⟩
 clear hb hW1 hW2
 go_enter func23,ntmps23
 go_upto_region 1 with fail
 have hW1:=HW1.o
 unfold z53 at hW1
 rw [<-hW1]
 clear hW1
 go_region
 clear m2 m6 m7zq p2 p6zq p7zq
 obtain⟨W3,hW3⟩:∃W3,W3=(W1.alloc (Obj.cells (stM none 0 0 none 0 0 none 0 0 1 1 0).toArray 53)).drew:=⟨_,rfl⟩
 have HB3:Hid (Below W1.heap.size W1 W3):=by rw [hW3];exact (ab _ _).drew
 have HS3:Hid (R.Bx W3 W1.heap.size (stM none 0 0 none 0 0 none 0 0 1 1 0)):=by rw [hW3];exact R.Bx.later (Below.refl _ _).drew (R.Bx.new W1 _ _)
 have HZ3:Hid (Zr W3 w.heap.size):=by
  have h:=Zr.IL w
  rw [<-HW1.o] at h
  exact h.later HB3.o
 simp only [stM] at hW3
 rw [<-hW3]
 have HM3:=aa (R.Bx.later HB3.o HBx.o)
 have m3:=HM3.o.cell 12 rfl
 have m5:=HM3.o.cell 14 rfl
 have HWB:Hid (Below w.heap.size w W3):=al HB1.o HB3.o
 have g0:=cell_later HWB.o h1
 have g1:=cell_later HWB.o h2
 have s2:=HS3.o.cell 2 rfl
 have f2:=(HS3.o.there 2 (by simp [stM])).2
 have HSz:Hid (w.heap.size<W1.heap.size/\W1.heap.size<W3.heap.size):=⟨by rw [HW1.o];simp,HS3.o.lt (by simp [stM])⟩
 clear hW3 h1 h2 HBx HW1 HW2 HB2 HB1
 go_upto_region 3 with fail
 go_loopw [4] (λv U=>v=.int .i64 0/\W3=U) (λ_ _=>0)
 case atStart=>exact⟨rfl,rfl⟩
 case round =>
  obtain⟨rfl,hU⟩:=hrel
  subst hU
  go_upto_region 12 with fail
  go_loopw [6] (PrR w W1.heap.size W3) (λv _=>2 - S.ef v)
  case atStart=>exact .inl ⟨rfl,rfl⟩
  case round =>
   rcases hrel with ⟨rfl,hU⟩|⟨rfl,hD⟩
   ·subst hU
    have HSx:Hid (∀U,Below W3.heap.size W3 U->(λU:World=>U.cell? ⟨b,14,none⟩=some (.slice (some ⟨g,0,none⟩) 1 1)/\U.cell? ⟨g,0,none⟩=some (.int .i64 0)/\U.cell? ⟨g,1,none⟩=some (.slice none 0 0)) U):=λU hU=>⟨cell_later hU m5,cell_later hU g0,cell_later hU g1⟩
    obtain⟨a5,c5,w5,hrun1,hO5,hb5⟩:=caps_none W3.drew
    have HB5:Hid (Below W3.heap.size W3 w5):=al (Below.refl _ _).drew hb5
    obtain⟨a7zq,c7,w7,hrun2,hT7,hb7⟩:=ed.snoc (base:=W3.heap.size) 51 _ 32 underlying51 GL rfl (by decide) (by decide) (ed.nil W3.drew W3.heap.size 59 38 3) (Nat.le_refl _) hb5 ⟨0,[],0,a5,c5⟩ hO5 (by omega)
    have HB7:Hid (Below W3.heap.size W3 w7):=al (Below.refl _ _).drew (ae.below (Below.refl _ _) hb7 (λk hk=>by obtain⟨_,h,_⟩:=hk;cases h))
    have HRUN1:=aa hrun1
    simp only [Ev.c] at hrun2
    have HRUN2:=aa hrun2
    have HT7:=aa hT7
    have HS7:=aa (R.Bx.later HB7.o HS3.o)
    have t2:=HS7.o.cell 2 rfl
    have z2:=(HS7.o.there 2 (by simp [stM])).2
    have HZ7:=aa (HZ3.o.later HB7.o)
    have s2':=cell_later (ab W3 (Obj.cells #[] 38)) s2
    have s5:=cell_later HB5.o s2
    have s5':=cell_later (ab w5 (Obj.cells #[.int .i64 0,.slice a5 0 c5] 59)) s5
    have HB8:Hid (ae (λk=>k=W1.heap.size) w7 (w7.setCell ⟨W1.heap.size,2,none⟩ (.slice a7zq 1 c7))):=ae.setCell (S:=λk=>k=W1.heap.size) (ae.refl _ _) (p:=⟨W1.heap.size,2,none⟩) rfl _
    have HS8:Hid ((λU:World=>U.cell? ⟨b,14,none⟩=some (.slice (some ⟨g,0,none⟩) 1 1)/\U.cell? ⟨g,0,none⟩=some (.int .i64 0)/\U.cell? ⟨g,1,none⟩=some (.slice none 0 0)) (w7.setCell ⟨W1.heap.size,2,none⟩ (.slice a7zq 1 c7))):=by
     have hx:=HSx.o _ HB7.o
     have hs:=HSz.o
     exact⟨aC HB8.o hx.1 (λe=>by have:=HBl.o;simp only at e;omega),aC HB8.o hx.2.1 (λe=>by have:=HBl.o;simp only at e;omega),aC HB8.o hx.2.2 (λe=>by have:=HBl.o;simp only at e;omega)⟩
    have HD8:Hid (PrD w W1.heap.size (w7.setCell ⟨W1.heap.size,2,none⟩ (.slice a7zq 1 c7))):=by
     refine⟨a7zq,c7,a5,c5,?_,(HT7.o.mono (show w.heap.size+1<=W3.heap.size by have:=HSz.o;omega)).but HB8.o (λk hk e=>?_),HZ7.o.but HB8.o (λe=>by have:=HSz.o;omega),ae.below (al HWB.o HB7.o) HB8.o (λk e=>by have:=HSz.o;omega)⟩
     ·exact Bx.put HS7.o 2 (by simp [stM]) _
     ·have:=(HT7.o.bD k hk).1
      have:=HSz.o
      omega
    clear hrun1 hrun2 hT7 hO5 hb5 hb7
    go_upto_region 14 with fail
    clear m5 m3 g0 g1 f2
    refine wp_region_held_drew (S:=(λU:World=>U.cell? ⟨b,14,none⟩=some (.slice (some ⟨g,0,none⟩) 1 1)/\U.cell? ⟨g,0,none⟩=some (.int .i64 0)/\U.cell? ⟨g,1,none⟩=some (.slice none 0 0))) (by kernel_rfl) (HSx.o _ (Below.refl _ _).drew) (λhHeld=>?_)
    refine nH (bm 25 0) 25 ?_
    refine tH 0 (v:=?_) rfl (λ_ _ _ h=>h) ?_ ?_;rotate_left
    ·(intro w hSw;obtain⟨q2,q3,q4⟩:=hSw;go_simp;try with_reducible rfl)
    try simp only [gz,Act.put]
    refine nH (bm 25 1) 24 ?_
    refine tH 2 (v:=?_) rfl (λ_ _ _ h=>h) ?_ ?_;rotate_left
    ·(intro w hSw;obtain⟨q2,q3,q4⟩:=hSw;go_simp;try with_reducible rfl)
    try simp only [gz,Act.put]
    refine nH (bm 25 5) 23 ?_
    refine tH 3 (v:=?_) rfl (λ_ _ _ h=>h) ?_ ?_;rotate_left
    ·(intro w hSw;obtain⟨q2,q3,q4⟩:=hSw;go_simp;try with_reducible rfl)
    try simp only [gz,Act.put]
    refine nH (bm 25 13) 22 ?_
    refine tH 4 (v:=?_) rfl (λ_ _ _ h=>h) ?_ ?_;rotate_left
    ·(intro w hSw;obtain⟨q2,q3,q4⟩:=hSw;go_simp;try with_reducible rfl)
    try simp only [gz,Act.put]
    refine nH (bm 25 29) 21 ?_
    refine tH 5 (v:=?_) rfl (λ_ _ _ h=>h) ?_ ?_;rotate_left
    ·(intro w hSw;obtain⟨q2,q3,q4⟩:=hSw;go_simp;try with_reducible rfl)
    try simp only [gz,Act.put]
    refine nH (bm 25 61) 20 ?_
    refine tH 6 (v:=?_) rfl (λ_ _ _ h=>h) ?_ ?_;rotate_left
    ·(intro w hSw;obtain⟨q2,q3,q4⟩:=hSw;go_simp;try with_reducible rfl)
    try simp only [gz,Act.put]
    refine nH (bm 25 125) 19 ?_
    refine tH 7 (v:=?_) rfl (λ_ _ _ h=>h) ?_ ?_;rotate_left
    ·(intro w hSw;obtain⟨q2,q3,q4⟩:=hSw;go_simp;try with_reducible rfl)
    try simp only [gz,Act.put]
    refine nH (bm 25 253) 18 ?_
    refine tH 8 (v:=?_) rfl (λ_ _ _ h=>h) ?_ ?_;rotate_left
    ·(intro w hSw;obtain⟨q2,q3,q4⟩:=hSw;go_simp;try with_reducible rfl)
    try simp only [gz,Act.put]
    refine nH (bm 25 509) 17 ?_
    refine tH 9 (v:=?_) rfl (λ_ _ _ h=>h) ?_ ?_;rotate_left
    ·(intro w hSw;obtain⟨q2,q3,q4⟩:=hSw;go_simp;try with_reducible rfl)
    try simp only [gz,Act.put]
    refine nH (bm 25 1021) 16 ?_
    refine tH 11 (v:=?_) rfl (λ_ _ _ h=>h) ?_ ?_;rotate_left
    ·(intro w hSw;obtain⟨q2,q3,q4⟩:=hSw;go_simp;try with_reducible rfl)
    try simp only [gz,Act.put]
    refine nH (bm 25 3069) 15 ?_
    refine tH 12 (v:=?_) rfl (λ_ _ _ h=>h) ?_ ?_;rotate_left
    ·(intro w hSw;obtain⟨q2,q3,q4⟩:=hSw;go_simp;try with_reducible rfl)
    try simp only [gz,Act.put]
    refine nH (bm 25 7165) 14 ?_
    refine tH 13 (v:=?_) rfl (λ_ _ _ h=>h) ?_ ?_;rotate_left
    ·(intro w hSw;obtain⟨q2,q3,q4⟩:=hSw;go_simp;try with_reducible rfl)
    try simp only [gz,Act.put]
    refine nH (bm 25 15357) 13 ?_
    refine tH 14 (v:=?_) rfl (λ_ _ _ h=>h) ?_ ?_;rotate_left
    ·(intro w hSw;obtain⟨q2,q3,q4⟩:=hSw;go_simp;try with_reducible rfl)
    try simp only [gz,Act.put]
    refine nH (bm 25 31741) 12 ?_
    refine tH 15 (v:=?_) rfl (λ_ _ _ h=>h) ?_ ?_;rotate_left
    ·(intro w hSw;obtain⟨q2,q3,q4⟩:=hSw;go_simp;try with_reducible rfl)
    try simp only [gz,Act.put]
    refine nH (bm 25 64509) 11 ?_
    refine tH 16 (v:=?_) rfl (λ_ _ _ h=>h) ?_ ?_;rotate_left
    ·(intro w hSw;obtain⟨q2,q3,q4⟩:=hSw;go_simp;try with_reducible rfl)
    try simp only [gz,Act.put]
    refine nH (bm 25 130045) 10 ?_
    refine tH 17 (v:=?_) rfl (λ_ _ _ h=>h) ?_ ?_;rotate_left
    ·(intro w hSw;obtain⟨q2,q3,q4⟩:=hSw;go_simp;try with_reducible rfl)
    try simp only [gz,Act.put]
    refine nH (bm 25 261117) 9 ?_
    refine tH 18 (v:=?_) rfl (λ_ _ _ h=>h) ?_ ?_;rotate_left
    ·(intro w hSw;obtain⟨q2,q3,q4⟩:=hSw;go_simp;try with_reducible rfl)
    try simp only [gz,Act.put]
    refine nH (bm 25 523261) 8 ?_
    refine yH [1,10] ?_
    refine AllReadyH.cons rfl (λK hK=>?_) ?_
    ·go_simp
     refine hK.out _ _ (HSx.o _ (Below.refl _ _).drew) (λhHeld=>?_)
     clear hK K
     try simp only [gz,Act.put]
     refine nH (bm 25 523263) 7 ?_
     refine yH [10] ?_
     refine cH rfl λK hK=>?_
     go_simp
     refine hK.out _ _ (HSx.o _ ((Below.refl _ _).drew.alloc (Nat.le_refl _) _)) (λhHeld=>?_)
     clear hK K
     try simp only [gz,Act.put]
     refine nH (bm 25 524287) 6 ?_
     refine yH [19] ?_
     refine cH rfl λK hK=>?_
     refine M.fO (.tmp 122) (.tmp 130) 57 rfl _ _ rfl rfl _ w5 HRUN1.o ?_
     refine hK.out _ _ (HSx.o _ HB5.o) (λhHeld=>?_)
     clear hK K
     try simp only [gz,Act.put]
     refine nH (bm 25 1048575) 5 ?_
     refine tH 20 (v:=?_) rfl (λ_ _ _ h=>h) ?_ ?_;rotate_left
     ·(intro w hSw;(try dsimp only at hSw);go_simp;try with_reducible rfl)
     try simp only [gz,Act.put]
     refine nH (bm 25 2097151) 4 ?_
     refine yH [21] ?_
     refine cH rfl λK hK=>?_
     go_simp
     refine hK.out _ _ (HSx.o _ (HB5.o.alloc HB5.o.size _)) (λhHeld=>?_)
     clear hK K
     try simp only [gz,Act.put]
     refine nH (bm 25 4194303) 3 ?_
     refine yH [22] ?_
     refine cH rfl λK hK=>?_
     refine M.fO (.tmp 113) (.tmp 133) 51 rfl _ _ rfl rfl _ w7 HRUN2.o ?_
     refine hK.out _ _ (HSx.o _ HB7.o) (λhHeld=>?_)
     clear hK K
     try simp only [gz,Act.put]
     refine nH (bm 25 8388607) 2 ?_
     refine tH 23 (v:=?_) rfl (λ_ _ _ h=>h) ?_ ?_;rotate_left
     ·(intro w hSw;(try dsimp only at hSw);go_simp;try with_reducible rfl)
     try simp only [gz,Act.put]
     refine nH (bm 25 16777215) 1 ?_
     refine yH [24] ?_
     refine cH rfl λK hK=>?_
     go_simp
     refine hK.out _ _ (HS8.o) (λhHeld=>?_)
     clear hK K
     try simp only [gz,Act.put]
     refine nH (bm 25 33554431) 0 ?_
     refine wpAnyH_done (by kernel_rfl) ?_ _
     go_wp2
     exact⟨.inr ⟨rfl,HD8.o⟩,by simp [S.ef]⟩
    refine cH rfl λK hK=>?_
    go_simp
    refine hK.out _ _ (HSx.o _ ((Below.refl _ _).drew.alloc (Nat.le_refl _) _)) (λhHeld=>?_)
    clear hK K
    try simp only [gz,Act.put]
    refine nH (bm 25 524285) 7 ?_
    refine yH [1,19] ?_
    refine AllReadyH.cons rfl (λK hK=>?_) ?_
    ·go_simp
     refine hK.out _ _ (HSx.o _ ((Below.refl _ _).drew.alloc (Nat.le_refl _) _)) (λhHeld=>?_)
     clear hK K
     try simp only [gz,Act.put]
     refine nH (bm 25 524287) 6 ?_
     refine yH [19] ?_
     refine cH rfl λK hK=>?_
     refine M.fO (.tmp 122) (.tmp 130) 57 rfl _ _ rfl rfl _ w5 HRUN1.o ?_
     refine hK.out _ _ (HSx.o _ HB5.o) (λhHeld=>?_)
     clear hK K
     try simp only [gz,Act.put]
     refine nH (bm 25 1048575) 5 ?_
     refine tH 20 (v:=?_) rfl (λ_ _ _ h=>h) ?_ ?_;rotate_left
     ·(intro w hSw;(try dsimp only at hSw);go_simp;try with_reducible rfl)
     try simp only [gz,Act.put]
     refine nH (bm 25 2097151) 4 ?_
     refine yH [21] ?_
     refine cH rfl λK hK=>?_
     go_simp
     refine hK.out _ _ (HSx.o _ (HB5.o.alloc HB5.o.size _)) (λhHeld=>?_)
     clear hK K
     try simp only [gz,Act.put]
     refine nH (bm 25 4194303) 3 ?_
     refine yH [22] ?_
     refine cH rfl λK hK=>?_
     refine M.fO (.tmp 113) (.tmp 133) 51 rfl _ _ rfl rfl _ w7 HRUN2.o ?_
     refine hK.out _ _ (HSx.o _ HB7.o) (λhHeld=>?_)
     clear hK K
     try simp only [gz,Act.put]
     refine nH (bm 25 8388607) 2 ?_
     refine tH 23 (v:=?_) rfl (λ_ _ _ h=>h) ?_ ?_;rotate_left
     ·(intro w hSw;(try dsimp only at hSw);go_simp;try with_reducible rfl)
     try simp only [gz,Act.put]
     refine nH (bm 25 16777215) 1 ?_
     refine yH [24] ?_
     refine cH rfl λK hK=>?_
     go_simp
     refine hK.out _ _ (HS8.o) (λhHeld=>?_)
     clear hK K
     try simp only [gz,Act.put]
     refine nH (bm 25 33554431) 0 ?_
     refine wpAnyH_done (by kernel_rfl) ?_ _
     go_wp2
     exact⟨.inr ⟨rfl,HD8.o⟩,by simp [S.ef]⟩
    refine cH rfl λK hK=>?_
    refine M.fO (.tmp 122) (.tmp 130) 57 rfl _ _ rfl rfl _ w5 HRUN1.o ?_
    refine hK.out _ _ (HSx.o _ HB5.o) (λhHeld=>?_)
    clear hK K
    try simp only [gz,Act.put]
    refine nH (bm 25 1048573) 6 ?_
    refine tH 20 (v:=?_) rfl (λ_ _ _ h=>h) ?_ ?_;rotate_left
    ·(intro w hSw;(try dsimp only at hSw);go_simp;try with_reducible rfl)
    try simp only [gz,Act.put]
    refine nH (bm 25 2097149) 5 ?_
    refine yH [1,21] ?_
    refine AllReadyH.cons rfl (λK hK=>?_) ?_
    ·go_simp
     refine hK.out _ _ (HSx.o _ HB5.o) (λhHeld=>?_)
     clear hK K
     try simp only [gz,Act.put]
     refine nH (bm 25 2097151) 4 ?_
     refine yH [21] ?_
     refine cH rfl λK hK=>?_
     go_simp
     refine hK.out _ _ (HSx.o _ (HB5.o.alloc HB5.o.size _)) (λhHeld=>?_)
     clear hK K
     try simp only [gz,Act.put]
     refine nH (bm 25 4194303) 3 ?_
     refine yH [22] ?_
     refine cH rfl λK hK=>?_
     refine M.fO (.tmp 113) (.tmp 133) 51 rfl _ _ rfl rfl _ w7 HRUN2.o ?_
     refine hK.out _ _ (HSx.o _ HB7.o) (λhHeld=>?_)
     clear hK K
     try simp only [gz,Act.put]
     refine nH (bm 25 8388607) 2 ?_
     refine tH 23 (v:=?_) rfl (λ_ _ _ h=>h) ?_ ?_;rotate_left
     ·(intro w hSw;(try dsimp only at hSw);go_simp;try with_reducible rfl)
     try simp only [gz,Act.put]
     refine nH (bm 25 16777215) 1 ?_
     refine yH [24] ?_
     refine cH rfl λK hK=>?_
     go_simp
     refine hK.out _ _ (HS8.o) (λhHeld=>?_)
     clear hK K
     try simp only [gz,Act.put]
     refine nH (bm 25 33554431) 0 ?_
     refine wpAnyH_done (by kernel_rfl) ?_ _
     go_wp2
     exact⟨.inr ⟨rfl,HD8.o⟩,by simp [S.ef]⟩
    refine cH rfl λK hK=>?_
    go_simp
    refine hK.out _ _ (HSx.o _ (HB5.o.alloc HB5.o.size _)) (λhHeld=>?_)
    clear hK K
    try simp only [gz,Act.put]
    refine nH (bm 25 4194301) 4 ?_
    refine yH [1] ?_
    refine cH rfl λK hK=>?_
    go_simp
    refine hK.out _ _ (HSx.o _ (HB5.o.alloc HB5.o.size _)) (λhHeld=>?_)
    clear hK K
    try simp only [gz,Act.put]
    refine nH (bm 25 4194303) 3 ?_
    refine yH [22] ?_
    refine cH rfl λK hK=>?_
    refine M.fO (.tmp 113) (.tmp 133) 51 rfl _ _ rfl rfl _ w7 HRUN2.o ?_
    refine hK.out _ _ (HSx.o _ HB7.o) (λhHeld=>?_)
    clear hK K
    try simp only [gz,Act.put]
    refine nH (bm 25 8388607) 2 ?_
    refine tH 23 (v:=?_) rfl (λ_ _ _ h=>h) ?_ ?_;rotate_left
    ·(intro w hSw;(try dsimp only at hSw);go_simp;try with_reducible rfl)
    try simp only [gz,Act.put]
    refine nH (bm 25 16777215) 1 ?_
    refine yH [24] ?_
    refine cH rfl λK hK=>?_
    go_simp
    refine hK.out _ _ (HS8.o) (λhHeld=>?_)
    clear hK K
    try simp only [gz,Act.put]
    refine nH (bm 25 33554431) 0 ?_
    refine wpAnyH_done (by kernel_rfl) ?_ _
    go_wp2
    exact⟨.inr ⟨rfl,HD8.o⟩,by simp [S.ef]⟩
   ·obtain⟨a3,c3,lazq,lc,hS,hT,hZ,hB⟩:=hD
    have HS:=aa hS
    have HT:=aa hT
    have HZ:=aa hZ
    have HB:=aa hB
    have n5:=(HM5.o wr HB.o).cell 14 rfl
    have HLd:=aa (ldS9 HS.o)
    have HSt:=aa (HZ.o.Ju none 0 0 none 0 0 a3 1 c3 1 1 0)
    have HLv:=aa (HZ.o.JS none 0 0 none 0 0 a3 1 c3 1 1 0)
    clear hS hT hZ hB m5 m3 g0 g1 s2 f2
    go_wp2_with (first|((with_reducible refine R.aP HLd.o ?_ ?_);(· rfl))|((with_reducible refine aY HSt.o ?_ ?_ ?_);(· rfl);(· rfl)))
    have HB9:Hid (ae (λk=>k=w.heap.size) wr (wr.setCells w.heap.size 0 (stM none 0 0 none 0 0 a3 1 c3 1 1 0))):=R.iK (S:=λk=>k=w.heap.size) rfl _ 0 (ae.refl _ _)
    refine bodyPost_ret (v:=Eb none 0 0 none 0 0 a3 1 c3 1 1 0) (by simp [results,results23,asAddr,Act.put,HLv.o]) rfl ⟨none,0,[],none,0,a3,c3,[⟨0,[],0,lazq,lc⟩],rfl,⟨ed.nil _ _ _ _ _,rfl,Ow.nil _ _ _ _,?_,rfl,λj hj=>?_,λj hj=>?_,λj hj=>?_⟩,ae.below HB.o HB9.o (λk e=>by omega)⟩
    ·exact (HT.o.but HB9.o (λk hk e=>by have:=(HT.o.bD k hk).1;omega)).mono (Nat.le_succ _)
    ·rcases hj with ⟨_,h,_⟩|⟨o,h,_⟩<;>cases h
    ·rcases hj with ⟨_,h,_⟩|⟨o,h,_⟩<;>cases h
    ·obtain⟨_,h,_⟩:=hj;cases h
end
end Go.Proofs.YtfmhdimaijimlaaGreatDoor.V
