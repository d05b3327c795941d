import Derived.Test.YtfmhdimaijimlaaGreatDoorEYI
set_option linter.all false
set_option maxRecDepth 1000000
set_option maxHeartbeats 8000000
open Go.Proofs.Tryz
variable {w w' w1 w2:Go.World}{n m k i j b g base kn:Nat}{a:Option Go.Addr}
namespace Go.Proofs.YtfmhdimaijimlaaGreatDoor.V
open Go.RowKit
open Go.Proofs.YtfmhdimaijimlaaGreatDoor.H (B64 Cp)
open Go.Proofs.YtfmhdimaijimlaaGreatDoor.M (wpAnyH_norm)
section
variable {w w':World}
theorem gone_law (c:Cf){a0:Option Addr}{n0 cap0:Nat}{f0:Nat→Nat}(hD:D.Ws w a0 n0 cap0 f0){cap:Nat}{C:List R.Cl}{D' G':Nat→R.Sl}(hC:Cz w a n C D' G')(hn:n≤140737488355328)(hl:D.Laid w)(h0:0<w.heap.size) :
  Calls prog 6 #[c.v,.slice a0 n0 cap0,.slice a n cap] w λe w'=>e=.returned (.bool true)∧Below w.heap.size w w':=by
 obtain⟨W,hW⟩:∃W,W=w.alloc (Obj.cells c.L.toArray 23):=⟨_,rfl⟩
 have HB:Hid (Below w.heap.size w W):=by rw [hW];exact below1 _ _
 have HX:Hid (R.Bx W w.heap.size c.L):=by rw [hW];exact R.Bx.new w _ _
 have HLd:=hid (ldF HX.o)
 have HDs:=hid hD
 have HCz:=hid hC
 have HLa:=hid hl
 have HP:=hid h0
 have HW:=hid hW
 clear hC hl h0 hW hD
 go_enter func6,ntmps6
 go_upto_region 1 with fail
 have hW:=HW.o
 rw [←hW]
 clear hW HW
 go_upto_region 2 with (first|((with_reducible refine R.ld_arm HLd.o ?_ ?_);(· rfl))|(go_at_call 9;refine (config_any c W).mono ?_;rintro e w1 ⟨c1,rfl,hm,hb⟩;have HM1:=hid hm;have HB1:Hid (Below w.heap.size w w1):=b_c HB.o hb;clear hm hb)|(go_at_call 18;refine (words_any (HDs.o.later HB1.o)).mono ?_;rintro e w2 ⟨a1,m1,e1,rfl,hm,hw,-,hb⟩;have HM2:=hid hm;have HWs:=hid hw;have HB2:Hid (Below w.heap.size w w2):=b_c HB1.o hb;clear hm hw hb)|(go_at_call 11;refine (new_ok c1 HM1.o a1 m1 e1 f0 w2 HWs.o HM2.o (cell_later HB2.o HLa.o) (by have:=HP.o;have:=HB2.o.size;omega)).mono ?_;rintro e w3 ⟨H,N0,rfl,hk,hp,-,hN,hb⟩;have HK0:=hid hk;have HPm:=hid hp;have HN0:Hid (∀k,N0 k→w.heap.size≤k):=(λk h=>Nat.le_trans HB2.o.size (hN k h));have HB3:Hid (Below w.heap.size w w3):=b_c HB2.o hb;clear hk hp hN hb))
 have HPn:Hid (H.p.n≤4096):=by
  unfold Hid
  rw [HPm.o]
  exact HM2.o
 have HEx:=hid (example_any (cell_later HB3.o HLa.o) (by have:=HP.o;have:=HB3.o.size;omega))
 clear HLd HX HB HB1 HB2 HM1 HWs HPm HDs HM2
 go_upto_region 5 with (first|(go_at_call 12;refine HEx.o.mono ?_;rintro e w4 ⟨rfl,hb⟩;have HB4:=hid hb;clear hb))
 go_loopw [9] (RfRel w H n) (λv _=>n - S.ivN v)
 case atStart=>exact⟨0,_,_,rfl,Nat.zero_le _,HK0.o.later HB4.o,HN0.o,b_c HB3.o HB4.o⟩
 case round =>
  clear HK0 HN0 HB3 HB4 HEx
  obtain⟨i,s,N,rfl,hi,hK,hN,hBr⟩:=hrel
  have HIn:=hid hi
  have HK:=hid hK
  have HN:=hid hN
  have HBr:=hid hBr
  clear hi hK hN hBr
  by_cases hq:i<n∧i<60
  ·obtain⟨hlt,h60⟩:=hq
   have hd:decide ((i:Int)<(n:Int))=true:=dT (by omega)
   have hd6:decide ((i:Int)<60)=true:=dT (by omega)
   obtain⟨cl,hcl⟩:∃cl,C[i]?=some cl:=⟨_,gE (by have:=HCz.o.len;omega)⟩
   obtain⟨b,o,rfl,hrg⟩:=HCz.o.at_ (by omega)
   have hrg:=hrg i cl hcl
   have HIs:=hid (HCz.o.is i cl hcl)
   have HRg:Hid (∀U,Below w.heap.size w U→U.rangeAt b (o+i*13) (R.cC cl (D' i) (G' i))):=λU hU j v hv=>cell_later hU (hrg j v hv)
   obtain⟨A,hA⟩:∃A,A=doA H.p s cl:=⟨_,rfl⟩
   have HA:=hid hA
   obtain⟨p,hp⟩:∃p,p=psOf H.mo s:=⟨_,rfl⟩
   have HPs:=hid hp
   have HSmall:Hid p.Small:=by rw [hp];exact HK.o.small
   have HSt:Hid (Calls prog 17 #[.pointer (some ⟨H.kb,0,none⟩)] wr (StRets wr p)):=by
    obtain⟨d,hdd,ht,hf,_⟩:=HK.o
    rw [hp]
    exact state_any hdd hf
   clear hcl hrg hA hp
   go_upto_region 8 with (first|(go_at_call 17;(with_reducible refine HSt.o.mono ?_);rintro e x1 ⟨a1,e1,Q1,a2,e2,a3,e3,Q3,rfl,hT,hb⟩;have HT:=hid hT;have HXb:=hid hb;clear hT hb))
   obtain⟨y1,hy1⟩:∃y1,y1=x1.alloc (Obj.cells (stM a1 p.O.length e1 a2 p.T.length e2 a3 p.P.length e3 p.nx p.px p.t).toArray 53):=⟨_,rfl⟩
   have HS1:Hid (R.Bx y1 x1.heap.size (stM a1 p.O.length e1 a2 p.T.length e2 a3 p.P.length e3 p.nx p.px p.t)):=by rw [hy1];exact R.Bx.new x1 _ 53
   have HY1:Hid (Below x1.heap.size x1 y1):=by rw [hy1];exact below1 _ _
   simp only [stM] at hy1
   rw [←hy1]
   clear hy1 HSt
   have HBy:Hid (Below w.heap.size w y1):=b_c (b_c HBr.o HXb.o) HY1.o
   have HLd:=hid (ldC_at (HRg.o y1 HBy.o))
   have HS45:=hid (Bx.st45 (R.Bx.new y1 z13 45) rfl cl (D' i) (G' i))
   go_upto_region 9 with (first|((with_reducible refine R.ld_arm HLd.o ?_ ?_);(· rfl))|((with_reducible refine st_arm HS45.o ?_ ?_ ?_);(· rfl);(· rfl)))
   obtain⟨y2,hy2⟩:∃y2,y2=(y1.alloc (Obj.cells z13.toArray 45)).setCells y1.heap.size 0 (R.cC cl (D' i) (G' i)):=⟨_,rfl⟩
   have HC2:Hid (R.Bx y2 y1.heap.size (R.cC cl (D' i) (G' i))):=by rw [hy2];exact R.Bx.set (R.Bx.new y1 z13 45) rfl
   have HY2:Hid (Below y1.heap.size y1 y2):=by rw [hy2];exact But.below (below1 _ _) (R.sb_ (S:=(·=y1.heap.size)) rfl _ 0 (But.refl _ _)) (λk e=>by omega)
   rw [←hy2]
   have HBy2:Hid (Below w.heap.size w y2):=b_c HBy.o HY2.o
   have HLc:=hid (ldC_at HC2.o.range)
   have HCp:=hid (copied_any (HIs.o.1.later HBy2.o) HIs.o.2.1 HIs.o.2.2)
   have HKy:=hid (((HK.o.later HXb.o).later HY1.o).later HY2.o)
   have HNs:Hid (∀k,N k→k<wr.heap.size):=λk hk=>(HK.o.rng k hk).2
   clear hy2 HLd HS45
   go_upto_region 10 with (first|((with_reducible refine R.ld_arm HLc.o ?_ ?_);(· rfl))|(go_at_call 14;refine HCp.o.mono ?_;rintro e u1 ⟨d1,g1,rfl,hm,hb⟩;have HU1:=hid hb;have hdo:=do_any (HKy.o.later hb) hm.is (λ_ j hj e=>by have:=(hm.d j hj).1;have:=HNs.o j e;have:=HXb.o.size;have:=HY1.o.size;have:=HY2.o.size;omega);rw [←HA.o] at hdo;have HDo:=hid hdo;clear hm hb hdo)|(go_at_call 13;refine HDo.o.mono ?_;rintro e u2 ⟨ra,rn,rc,N',rfl,ho,hk,hw,hq⟩;have HKr:=hid hk;have HWr:=hid hw;clear ho hk hw hq))
   obtain⟨u3,hu3⟩:∃u3,u3=u2.alloc (Obj.cells (rpL A.1 ra rn rc).toArray 41):=⟨_,rfl⟩
   have HX3:Hid (R.Bx u3 u2.heap.size (rpL A.1 ra rn rc)):=by rw [hu3];exact R.Bx.new u2 (rpL A.1 ra rn rc) 41
   have HU3:Hid (Below u2.heap.size u2 u3):=by rw [hu3];exact below1 _ _
   simp only [rpL] at hu3
   rw [←hu3]
   have HBu3:Hid (Below w.heap.size w u3):=b_c (But.below (b_c HBy2.o HU1.o) HWr.o.2 HN.o) HU3.o
   have HZ:Hid (wr.heap.size≤x1.heap.size∧x1.heap.size<y1.heap.size∧y1.heap.size<y2.heap.size∧y2.heap.size≤u1.heap.size∧u1.heap.size≤u2.heap.size∧u2.heap.size<u3.heap.size):=⟨HXb.o.size,HS1.o.lt (by simp [stM]),HC2.o.lt (by simp [R.cC]),HU1.o.size,HWr.o.size,HX3.o.lt (by simp [rpL])⟩
   have HS0:Hid (But (λk=>N k∨u1.heap.size≤k) x1 u3):=(But.of HY1.o).trans ((But.of HY2.o).trans ((But.of HU1.o).trans ((But.mono HWr.o.2 (λk hk=>.inl hk)).trans (But.of HU3.o))))
   have HK3:=hid (HKr.o.later HU3.o)
   have HN3:Hid (∀k,N' k→w.heap.size≤k):=Went.low HWr.o HN.o (by have:=HBr.o.size;have:=HZ.o;omega)
   have HN4:Hid (∀k,N' k→N k∨u1.heap.size≤k):=HWr.o.1
   have HN5:Hid (∀k,N' k→k<u2.heap.size):=λk hk=>(HKr.o.rng k hk).2
   obtain⟨cd,hcd⟩:∃cd,cd=A.1.code:=⟨_,rfl⟩
   have HCd:=hid hcd
   have hc0:u3.cell? ⟨u2.heap.size,0,none⟩=some (.int .i64 cd):=by rw [hcd];exact HX3.o.cell 0 rfl
   have HC3:Hid (R.Bx u3 y1.heap.size (R.cC cl (D' i) (G' i))):=R.Bx.later HU3.o (R.Bx.but HWr.o.2 (R.Bx.later HU1.o HC2.o) (λh=>by have:=HNs.o _ h;have:=HZ.o;omega))
   have hop0:u3.cell? ⟨y1.heap.size,0,none⟩=some (.int .i64 cl.op):=HC3.o.cell 0 rfl
   clear hu3 hcd HLc HCp HDo HKr HKy
   by_cases hz:cd=0
   ·by_cases hop:cl.op=2∨cl.op=4
    ·obtain⟨x,hgon⟩:=gon_of (p:=H.p) HK.o.kf.fit cl hop (by rw [←HA.o,←HCd.o];exact hz)
     have hkept:=kept_of (p:=H.p) HK.o.kf hop hgon (by rw [←HA.o];exact HK3.o.kf)
     rw [←HA.o] at hkept
     have hPe:A.2.P=s.P:=by rw [HA.o,hgon.st];rfl
     have HKp:=hid hkept
     have HGn:=hid hgon
     obtain⟨An,hAn⟩:∃An,An=nl s.X s.l (s.V.map Prod.fst):=⟨_,rfl⟩
     rw [←hAn] at HKp
     have HPe:=hid hPe
     obtain⟨p',hp'⟩:∃p',p'=psOf H.mo A.2:=⟨_,rfl⟩
     have HPs':=hid hp'
     have HSt2:Hid (∀U NU,Kn U H A.2 NU→Calls prog 17 #[.pointer (some ⟨H.kb,0,none⟩)] U (StRets U p')):=λU NU hU=>by
      obtain⟨d,hdd,ht,hf,_⟩:=hU
      rw [hp']
      exact state_any hdd hf
     have HSmall':Hid p'.Small:=by rw [hp'];exact HK3.o.small
     have hpn0:¬p'.P.length=0:=by
      rw [hp']
      show ¬(A.2.P.map _).length=0
      rw [List.length_map,hPe]
      have:=List.length_pos_of_mem hgon.by_
      omega
     subst hz
     clear hkept hgon hAn hPe hp'
     rcases hop with hop|hop
     ·rw [hop] at hop0
      have HOp:=hid hop
      clear hop
      go_upto_region 12 with (first|(go_at_call 17;refine (HSt2.o u3 N' HK3.o).mono ?_;rintro e x4 ⟨b1,f1,R1,b2,f2,b3,f3,R3,rfl,hT,hb⟩;have HT4:=hid hT;have HX4b:=hid hb;clear hT hb))
      obtain⟨y4,hy4⟩:∃y4,y4=x4.alloc (Obj.cells (stM b1 p'.O.length f1 b2 p'.T.length f2 b3 p'.P.length f3 p'.nx p'.px p'.t).toArray 53):=⟨_,rfl⟩
      have HS4:Hid (R.Bx y4 x4.heap.size (stM b1 p'.O.length f1 b2 p'.T.length f2 b3 p'.P.length f3 p'.nx p'.px p'.t)):=by rw [hy4];exact R.Bx.new x4 _ 53
      have HY4:Hid (Below x4.heap.size x4 y4):=by rw [hy4];exact below1 _ _
      simp only [stM] at hy4
      rw [←hy4]
      have HU4:Hid (Below u3.heap.size u3 y4):=b_c HX4b.o HY4.o
      have HZ4:Hid (u3.heap.size≤x4.heap.size∧x4.heap.size<y4.heap.size):=⟨HX4b.o.size,HS4.o.lt (by simp [stM])⟩
      have HGB:Hid (∀U,But N' y4 U→Gb U p p' x1.heap.size y1.heap.size x4.heap.size cl (D' i) (G' i) a1 e1 Q1 a2 e2 a3 e3 Q3 b1 f1 R1 b2 f2 b3 f3 R3):=λU hU=>by
       have hz:=HZ.o
       have hz4:=HZ4.o
       have h0:But (λk=>N k∨u1.heap.size≤k) x1 U:=HS0.o.trans ((But.of HU4.o).trans (But.mono hU HN4.o))
       have h1:But (λk=>N k∨u1.heap.size≤k) y1 U:=(But.of HY2.o).trans (((But.of HU1.o).trans ((But.mono HWr.o.2 (λk hk=>.inl hk)).trans (But.of HU3.o))).trans ((But.of HU4.o).trans (But.mono hU HN4.o)))
       have h4:But N' x4 U:=(But.of HY4.o).trans hU
       refine⟨R.Bx.but h1 HS1.o (λe=>?_),R.Bx.but (hU) (R.Bx.later HU4.o HC3.o) (λe=>?_),R.Bx.but hU HS4.o (λe=>?_),(Tells.but HT.o h0 (λj g1 g2 g3=>?_)).look,(Tells.but HT4.o h4 (λj g1 g2 g3=>?_)).look⟩
       ·rcases e with e|e
        ·have:=HNs.o _ e;omega
        ·omega
       ·rcases HN4.o _ e with e|e
        ·have:=HNs.o _ e;omega
        ·omega
       ·have:=HN5.o _ e;omega
       ·rcases g3 with e|e
        ·have:=HNs.o _ e;omega
        ·omega
       ·have:=HN5.o _ g3;omega
      have n2:=HS4.o.cell 2 rfl
      have hpb:((p'.P.length:Int)==0)=false:=by rw [beq_eq_false_iff_ne];omega
      have HK4:=hid (HK3.o.later HU4.o)
      clear hy4 hc0 hop0
      go_upto_region 14 with fail
      clear n2 hpb
      go_cut [14] from 225 (λv U=>v=.bool false∧y4=U)
      case first =>
       go_wp2
       go_meet
       exact⟨rfl,rfl⟩
      case rest =>
       obtain⟨rfl,hyy⟩:=hcut
       subst hyy
       first|go_upon|go_back|go_step
       refine gone_rest HGB.o HK4.o HKp.o HPs.o HPs'.o HK.o.kf.fit.inv HSmall.o HSmall'.o (by omega) (λc a d v w h=>by cases d<;>exact h) ?_
       rintro NU w9 ⟨hk9,hw9⟩
       have HK9:=hid hk9
       have HW9:=hid hw9
       have HB9:Hid (Below w.heap.size w w9):=But.below (b_c HBu3.o HU4.o) hw9.2 HN3.o
       have HN9:Hid (∀k,NU k→w.heap.size≤k):=Went.low hw9 HN3.o (b_c HBu3.o HU4.o).size
       clear hk9 hw9
       intros
       go_wp2
       exact⟨⟨i+1,A.2,NU,rfl,by omega,HK9.o,HN9.o,HB9.o⟩,by simp [S.ivN];omega⟩
     ·rw [hop] at hop0
      have HOp:=hid hop
      clear hop
      go_upto_region 12 with (first|(go_at_call 17;refine (HSt2.o u3 N' HK3.o).mono ?_;rintro e x4 ⟨b1,f1,R1,b2,f2,b3,f3,R3,rfl,hT,hb⟩;have HT4:=hid hT;have HX4b:=hid hb;clear hT hb))
      obtain⟨y4,hy4⟩:∃y4,y4=x4.alloc (Obj.cells (stM b1 p'.O.length f1 b2 p'.T.length f2 b3 p'.P.length f3 p'.nx p'.px p'.t).toArray 53):=⟨_,rfl⟩
      have HS4:Hid (R.Bx y4 x4.heap.size (stM b1 p'.O.length f1 b2 p'.T.length f2 b3 p'.P.length f3 p'.nx p'.px p'.t)):=by rw [hy4];exact R.Bx.new x4 _ 53
      have HY4:Hid (Below x4.heap.size x4 y4):=by rw [hy4];exact below1 _ _
      simp only [stM] at hy4
      rw [←hy4]
      have HU4:Hid (Below u3.heap.size u3 y4):=b_c HX4b.o HY4.o
      have HZ4:Hid (u3.heap.size≤x4.heap.size∧x4.heap.size<y4.heap.size):=⟨HX4b.o.size,HS4.o.lt (by simp [stM])⟩
      have HGB:Hid (∀U,But N' y4 U→Gb U p p' x1.heap.size y1.heap.size x4.heap.size cl (D' i) (G' i) a1 e1 Q1 a2 e2 a3 e3 Q3 b1 f1 R1 b2 f2 b3 f3 R3):=λU hU=>by
       have hz:=HZ.o
       have hz4:=HZ4.o
       have h0:But (λk=>N k∨u1.heap.size≤k) x1 U:=HS0.o.trans ((But.of HU4.o).trans (But.mono hU HN4.o))
       have h1:But (λk=>N k∨u1.heap.size≤k) y1 U:=(But.of HY2.o).trans (((But.of HU1.o).trans ((But.mono HWr.o.2 (λk hk=>.inl hk)).trans (But.of HU3.o))).trans ((But.of HU4.o).trans (But.mono hU HN4.o)))
       have h4:But N' x4 U:=(But.of HY4.o).trans hU
       refine⟨R.Bx.but h1 HS1.o (λe=>?_),R.Bx.but (hU) (R.Bx.later HU4.o HC3.o) (λe=>?_),R.Bx.but hU HS4.o (λe=>?_),(Tells.but HT.o h0 (λj g1 g2 g3=>?_)).look,(Tells.but HT4.o h4 (λj g1 g2 g3=>?_)).look⟩
       ·rcases e with e|e
        ·have:=HNs.o _ e;omega
        ·omega
       ·rcases HN4.o _ e with e|e
        ·have:=HNs.o _ e;omega
        ·omega
       ·have:=HN5.o _ e;omega
       ·rcases g3 with e|e
        ·have:=HNs.o _ e;omega
        ·omega
       ·have:=HN5.o _ g3;omega
      have n2:=HS4.o.cell 2 rfl
      have hpb:((p'.P.length:Int)==0)=false:=by rw [beq_eq_false_iff_ne];omega
      have HK4:=hid (HK3.o.later HU4.o)
      clear hy4 hc0 hop0
      go_upto_region 14 with fail
      clear n2 hpb
      go_cut [14] from 225 (λv U=>v=.bool false∧y4=U)
      case first =>
       go_wp2
       go_meet
       exact⟨rfl,rfl⟩
      case rest =>
       obtain⟨rfl,hyy⟩:=hcut
       subst hyy
       first|go_upon|go_back|go_step
       refine gone_rest HGB.o HK4.o HKp.o HPs.o HPs'.o HK.o.kf.fit.inv HSmall.o HSmall'.o (by omega) (λc a d v w h=>by cases d<;>exact h) ?_
       rintro NU w9 ⟨hk9,hw9⟩
       have HK9:=hid hk9
       have HW9:=hid hw9
       have HB9:Hid (Below w.heap.size w w9):=But.below (b_c HBu3.o HU4.o) hw9.2 HN3.o
       have HN9:Hid (∀k,NU k→w.heap.size≤k):=Went.low hw9 HN3.o (b_c HBu3.o HU4.o).size
       clear hk9 hw9
       intros
       go_wp2
       exact⟨⟨i+1,A.2,NU,rfl,by omega,HK9.o,HN9.o,HB9.o⟩,by simp [S.ivN];omega⟩
    ·have h4:(cl.op != 4)=true:=by simp;omega
     have h2:(cl.op != 2)=true:=by simp;omega
     generalize cl.op=op at *
     subst hz
     clear hop
     go_wp2
     exact⟨⟨i+1,A.2,N',rfl,by omega,HK3.o,HN3.o,HBu3.o⟩,by simp [S.ivN];omega⟩
   ·have hzb:(cd != 0)=true:=by simpa using hz
    go_wp2
    exact⟨⟨i+1,A.2,N',rfl,by omega,HK3.o,HN3.o,HBu3.o⟩,by simp [S.ivN];omega⟩
  ·clear HCz HK HN HLa
   have hor:(decide ((i:Int)<(n:Int))=false)∨(decide ((i:Int)<(n:Int))=true∧decide ((i:Int)<60)=false∧¬(i<60)):=by
    by_cases h1:i<n
    ·exact .inr ⟨dT (by omega),dF (by omega),by omega⟩
    ·exact .inl (dF (by omega))
   rcases hor with h1|⟨h1,h2,h3⟩
   ·have h9:¬i<n:=by have:=of_decide_eq_false h1;omega
    clear hq
    go_wp2
    go_ret
    exact⟨rb_ rfl,HBr.o⟩
   ·have h8:i<n:=by have:=of_decide_eq_true h1;omega
    clear hq
    go_wp2
    go_ret
    exact⟨rb_ rfl,HBr.o⟩
end
end Go.Proofs.YtfmhdimaijimlaaGreatDoor.V
