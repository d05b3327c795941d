import Derived.Test.YtffmodpgddecnaaGreatZ39
set_option linter.unusedVariables false
set_option linter.unusedSimpArgs false
namespace Go.Proofs.YtffmodpgddecnaaGreat.V.E
open Go.RowKit Go.Maps
open Go.Proofs.YtffmodpgddecnaaGreat.H (B64 Cp)
open Go.Proofs.YtffmodpgddecnaaGreat.M (okI atC pickE pickL)
theorem do_mw {U:World}{h:Hm}{q:Pl}{N:Nat→Prop}(k:Mw U h q N)(hf:Fit h.p q)(hcf:h.cf.may=true){cl:R.Cl}{dd gg:R.Sl}(hi:R.Is U cl dd gg){r:Rep×Pl}(hr:r=pDo h.p q cl) :
  Calls Tryz.prog 11 #[.pointer (some ⟨h.g,0,none⟩),.agg (R.cC cl dd gg).toArray] U (DoP U h N r):=by
 obtain⟨Es,Ls,km⟩:=k
 rw [hr]
 exact do_any km hf hcf hi
theorem same_of {U:World}{r:Rep}{a b:Option Addr}{n m ca cb:Nat}{base base':Nat}(h:Own U base 5 a n ca (S.u8s r.data))(k:Own U base' 5 b m cb (S.u8s r.data))(hd:r.data.length≤1024) :
  Calls Tryz.prog 10 #[rpV r a n ca,rpV r b m cb] U fun e w'=>e=.returned (.bool true)∧Below U.heap.size U w':=by
 have h1:=h.len
 have h2:=k.len
 rw [S.u8s_length] at h1 h2
 obtain rfl:n=m:=by omega
 exact sameReply_eq r (Fl.own h) (Fl.own k) h1 (by omega)
theorem small_ps {p:Pm}{q:Pl}(hf:Fit p q)(ht:TreA q):(psP q).Small:=by
 have h1:=hf.rm
 have h2:=hf.mo
 have h3:=hf.pm
 have h4:=tlO_len ht []
 refine⟨?_,?_,?_,fun v hv=>?_,fun v hv=>?_⟩
 ·show (vO q.O).length≤_
  unfold vO
  rw [List.length_map]
  omega
 ·show (q.O.foldl tlO []).length≤_
  simp only [List.length_nil] at h4
  omega
 ·show q.X.length≤_
  omega
 ·obtain⟨e,he,rfl⟩:=List.mem_map.1 hv
  have:=(hf.ob e he).2.1
  show e.2.b.length≤_
  omega
 ·have h5:=(hf.ln v hv).1
  have h6:=hf.lm
  show v.2.length≤_
  omega
structure Py (w U:World)(base:Nat)(h:Hm)(M:Mh)(q:Pl)(f:Int→Nat×Nat)(r:Rm)(bo bl:Nat)(N:Nat→Prop)(a1:Option Addr)(c1:Nat)(Q1:List Ev)(a2:Option Addr)(c2:Nat)(a3:Option Addr)(c3:Nat)(Q3:List Ev):Prop where
 md:Mw U { h with bo:=bo,bl:=bl } q N
 fit:Fit h.p q
 tre:TreA q
 like:Like q f r
 mx:Mx U base M r a1 c1 Q1 a2 c2 a3 c3 Q3
 ap:∀j,MdB h.g bo bl N j→¬MxN M a1 Q1 a2 a3 Q3 j∧¬Blk M.da j
 lo:w.heap.size≤h.g
 bel:Below w.heap.size w U
def PyR (w:World)(base:Nat)(h:Hm)(M:Mh)(n:Nat)(v:Value)(U:World):Prop :=
 ∃(i:Nat) (q:Pl) (f:Int→Nat×Nat) (r:Rm) (bo bl:Nat) (N:Nat→Prop) (a1:Option Addr) (c1:Nat) (Q1:List Ev) (a2:Option Addr) (c2:Nat) (a3:Option Addr) (c3:Nat) (Q3:List Ev),v=.int .i64 (i:Int)∧i≤n∧Hid (Py w U base h M q f r bo bl N a1 c1 Q1 a2 c2 a3 c3 Q3)
section
variable {w U u1 u2 u4 u5 u6:World}{base:Nat}{h:Hm}{M:Mh}{q q2:Pl}{f f2:Int→Nat×Nat}{r r2:Rm}{bo bl bo2 bl2:Nat}{N N2:Nat→Prop}{a1:Option Addr}{c1:Nat}{Q1:List Ev}{a2:Option Addr}{c2:Nat}{a3:Option Addr}{c3:Nat}{Q3:List Ev}{b1:Option Addr}{e1:Nat}{P1:List Ev}{b2:Option Addr}{e2:Nat}{b3:Option Addr}{e3:Nat}{P3:List Ev}
theorem Py.pl (k:Py w U base h M q f r bo bl N a1 c1 Q1 a2 c2 a3 c3 Q3)(h1:Below U.heap.size U u1)(hb:But (MxN M a1 Q1 a2 a3 Q3) u1 u2):Mw u2 { h with bo:=bo,bl:=bl } q N :=
 (k.md.later h1).but hb (fun j hj=>(k.ap j hj).1)
theorem Py.next (k:Py w U base h M q f r bo bl N a1 c1 Q1 a2 c2 a3 c3 Q3)(hbs:w.heap.size≤base)(h1:Below U.heap.size U u1)(hx:Mx u2 base M r2 b1 e1 P1 b2 e2 b3 e3 P3)(hb:But (MxN M a1 Q1 a2 a3 Q3) u1 u2)(hn:∀j,MxN M b1 P1 b2 b3 P3 j→MxN M a1 Q1 a2 a3 Q3 j∨u1.heap.size≤j)(h4:Below u2.heap.size u2 u4)(hm:Mw u5 { h with bo:=bo2,bl:=bl2 } q2 N2)(hg:But (·=h.g) u4 u5)(hN:∀k,(N2 k∨k=bo2∨k=bl2)→(N k∨k=bo∨k=bl)∨u4.heap.size≤k)(h6:Below u5.heap.size u5 u6)(hf:Fit h.p q2)(ht:TreA q2)(hl:Like q2 f2 r2):Py w u6 base h M q2 f2 r2 bo2 bl2 N2 b1 e1 P1 b2 e2 b3 e3 P3:=by
 have hgl:h.g<U.heap.size:=k.md.lt h.g (.inr (.inr (.inr rfl)))
 have hga:=k.ap h.g (.inr (.inr (.inr rfl)))
 have s1:=h1.size
 have s2:=hb.size
 have s4:=h4.size
 have hng:∀j,MxN M b1 P1 b2 b3 P3 j→¬j=h.g:=fun j hj e=>by
  subst e
  rcases hn _ hj with h7|h7
  ·exact hga.1 h7
  ·omega
 refine⟨hm.later h6,hf,ht,hl,((hx.later h4).but hg hng (fun j hj e=>by subst e;exact hga.2 hj)).later h6,fun j hj=>?_,k.lo,?_⟩
 ·have hold:MdB h.g bo bl N j→¬MxN M b1 P1 b2 b3 P3 j∧¬Blk M.da j:=fun ho=>by
   have h7:=k.ap j ho
   have h8:j<U.heap.size:=k.md.lt j ho
   refine⟨fun h9=>?_,h7.2⟩
   rcases hn _ h9 with h9|h9
   ·exact h7.1 h9
   ·omega
  have hnew:u4.heap.size≤j→¬MxN M b1 P1 b2 b3 P3 j∧¬Blk M.da j:=fun ho=>by
   refine⟨fun h9=>?_,fun h9=>?_⟩
   ·have:=(hx.rng j h9).2;omega
   ·have:=hx.dl j h9;omega
  have hcase:∀k,(N2 k∨k=bo2∨k=bl2)→¬MxN M b1 P1 b2 b3 P3 k∧¬Blk M.da k→True:=fun _ _ _=>trivial
  rcases hj with hj|hj|hj|hj
  ·rcases hN j (.inl hj) with (h7|h7|h7)|h7
   ·exact hold (.inl h7)
   ·exact hold (.inr (.inl h7))
   ·exact hold (.inr (.inr (.inl h7)))
   ·exact hnew h7
  ·rcases hN j (.inr (.inl hj)) with (h7|h7|h7)|h7
   ·exact hold (.inl h7)
   ·exact hold (.inr (.inl h7))
   ·exact hold (.inr (.inr (.inl h7)))
   ·exact hnew h7
  ·rcases hN j (.inr (.inr hj)) with (h7|h7|h7)|h7
   ·exact hold (.inl h7)
   ·exact hold (.inr (.inl h7))
   ·exact hold (.inr (.inr (.inl h7)))
   ·exact hnew h7
  ·exact hold (.inr (.inr (.inr hj)))
 ·have b2_:=But.below (below_call k.bel h1) hb (fun j hj=>Nat.le_trans hbs (k.mx.rng j hj).1)
  have b5:=But.below (below_call b2_ h4) hg (fun j e=>by have:=k.lo;omega)
  exact below_call b5 h6
end
section
variable {w:World}
set_option maxRecDepth 100000 in
set_option maxHeartbeats 4000000 in
theorem plays_ok (c:Cf)(hc:c.may=true){a:Option Addr}{n dcap:Nat}{f:Nat→Nat}(hw:D.Ws w a n dcap f)(hnd:n*16≤140737488355328)(hn:n≤4096){al:Option Addr}{nl cap:Nat}{C:List R.Cl}{D' G':Nat→R.Sl}(hC:Cz w al nl C D' G')(hnl:nl*136≤140737488355328) :
  Calls Tryz.prog 3 #[c.v,.slice a n dcap,.slice al nl cap] w fun e w'=>e=.returned (.bool true)∧Below w.heap.size w w':=by
 obtain⟨W,hW⟩:∃W,W=w.alloc (Obj.cells c.L.toArray 23):=⟨_,rfl⟩
 have hB:Below w.heap.size w W:=by rw [hW];exact below1 _ _
 have hX:R.Bx W w.heap.size c.L:=by rw [hW];exact R.Bx.new w c.L 23
 have HX:=hid hX
 have HB:=hid hB
 have HW:=hid hW
 have HWs:=hid (hw.later hB)
 have HCz:=hid (hC.later hB)
 have HLen:=hid hC.len
 have hnl2:nl≤140737488355328:=Nat.le_trans (Nat.le_mul_of_pos_right _ (by omega)) hnl
 have HNl:=hid hnl
 have HNd:=hid hnd
 have HC0:=hid hC
 have HW0:=hid hw
 have hd:decide ((n:Int)>4096)=false:=decide_eq_false (by omega)
 have hd2:decide ((4096:Int)<(n:Int))=false:=decide_eq_false (by omega)
 clear hX hB hW hw hC hnl hnd
 go_enter Tryz.func3,Tryz.ntmps3
 go_upto_region 1 with fail
 rw [←HW.out]
 go_upto_region 3 with (first|(go_at_call 4;refine (pexample_any (w:=W)).mono ?_;rintro e w1 ⟨rfl,hb⟩;have HB1:=hid hb;clear hb))
 have HSx:Hid (∀U,Below w1.heap.size w1 U→R.Bx U w.heap.size c.L):=fun U hU=>R.Bx.later hU (R.Bx.later HB1.out HX.out)
 obtain⟨a1,c1,p1,hrun,hws,-,hb⟩:=words_big (w:=w1.drew) ((HWs.out.later HB1.out).later (Below.refl _ _).drew) HNd.out
 have HRUN1:=hid hrun
 have HWs1:=hid hws
 have HBp1:Hid (Below w1.heap.size w1 p1):=below_call (Below.refl _ _).drew hb
 clear hrun hws hb
 have HNw:=hid (pnew_ok c hc a1 n c1 f p1 HWs1.out hn)
 go_cut [7,8] (fun v7 v8 U=>v8=.int .i64 0∧∃(h:Hm) (N:Nat→Prop),v7=.pointer (some ⟨h.g,0,none⟩)∧Hid (Md U h pl0 N [] [⟨0,[],none,0⟩])∧Hid (h.cf=c∧h.n=n∧h.f=f)∧Hid (w1.heap.size≤h.g)∧Hid (Below w1.heap.size w1 U))
 case first =>
  refine wp_region_held_drew (S:=(fun U:World=>R.Bx U w.heap.size c.L)) (by kernel_rfl) (HSx.out _ (Below.refl _ _).drew) (fun hHeld=>?_)
  refine nm 10 0 10 ?_
  refine tv 0 (v:=c.v) ?_ ?_
  ·(intro w hSw;(try dsimp only at hSw);exact ex_ld rfl rfl (ldF hSw))
  simp only [zz]
  refine nm 10 1 9 ?_
  refine tn 2 10 5 8 ?_
  simp only [zz]
  refine zr 1 fun K hK=>?_
  go_simp
  refine zk hK 10 7 7 (HSx.out _ ((Below.refl _ _).drew.alloc (Nat.le_refl _) _)) fun hHeld=>?_
  clear hK K
  try simp only [zz]
  refine zr 3 fun K hK=>?_
  refine wp_app (.tmp 16) (.tmp 17) 24 rfl _ _ rfl rfl _ p1 HRUN1.out ?_
  refine zk hK 10 15 6 (HSx.out _ HBp1.out) fun hHeld=>?_
  clear hK K
  try simp only [zz]
  refine zr 4 fun K hK=>?_
  go_simp
  go_wp2_with (first|(go_at_call 5;refine (HNw.out).mono ?_;rintro e p2 ⟨h,N,rfl,hm,hcf,hhn,hhf,hlo,hl3,hb⟩;have HBp2:=hid hb;have HMd:=hid hm;have HCf:Hid (h.cf=c∧h.n=n∧h.f=f):=⟨hcf,hhn,hhf⟩;have HLo:Hid (w1.heap.size≤h.g):=Nat.le_trans HBp1.out.size hl3.1;clear hb hm hcf hhn hhf hlo hl3))
  refine zk hK 10 31 5 (HSx.out _ (below_call HBp1.out HBp2.out)) fun hHeld=>?_
  clear hK K
  try simp only [zz]
  refine tn 5 10 63 4 ?_
  simp only [zz]
  refine tn 6 10 127 3 ?_
  simp only [zz]
  refine tn 7 10 255 2 ?_
  simp only [zz]
  refine tn 8 10 511 1 ?_
  simp only [zz]
  refine tn 9 10 1023 0 ?_
  simp only [zz]
  refine zn ?_ _
  (try go_wp2)
  go_meet
  exact⟨rfl,h,N,rfl,HMd,HCf,HLo,below_call HBp1.out HBp2.out⟩
 case rest =>
 rename World=>p2
 obtain⟨rfl,h,N,rfl,HMd,HCf,HLo,HBp2⟩:=hcut
 have HRn:=hid (fun U (e:D.Ws U a n dcap f)=>rnew2_any c e hn)
 go_upto_region 11 with (first|((with_reducible refine R.ld_arm (ldF (HSx.out _ HBp2.out)) ?_ ?_);(· rfl))|(go_at_call 6;refine (rmay_any c p2).mono ?_;rw [hc];rintro e p3 ⟨rfl,hb⟩;have HBp3:=hid hb;have HLd3:=hid (ldF (HSx.out _ (below_call HBp2.out hb)));clear hb)|((with_reducible refine R.ld_arm HLd3.out ?_ ?_);(· rfl))|(go_at_call 7;refine (HRn.out p3 (HW0.out.later (below_call HB.out (below_call HB1.out (below_call HBp2.out HBp3.out))))).mono ?_;rintro e p4 ⟨M,x3,y3,Z3,rfl,hx,hcm,hdn,hmf,hdr,hb⟩;have HMx:=hid hx;have HCm:Hid (M.C=c∧M.dn=n∧M.f=f):=⟨hcm,hdn,hmf⟩;have HDr:=hid hdr;have HBp4:=hid hb;clear hx hcm hdn hmf hdr hb))
 have hpe:M.p=h.p:=by
  unfold Mh.p
  rw [hm_p HCf.out.1 HCf.out.2.1 HCf.out.2.2,HCm.out.1,HCm.out.2.1,HCm.out.2.2]
 have HPe:=hid hpe
 have HMay:Hid (h.cf.may=true):=by unfold Hid;rw [HCf.out.1];exact hc
 have HMayC:Hid (M.C.may=true):=by unfold Hid;rw [HCm.out.1];exact hc
 obtain⟨base,hbase⟩:∃base,base=p3.heap.size:=⟨_,rfl⟩
 have Hb3:Hid (Below w.heap.size w p3):=below_call HB.out (below_call HB1.out (below_call HBp2.out HBp3.out))
 have HBs:Hid (w.heap.size≤base):=by unfold Hid;rw [hbase];exact Hb3.out.size
 have HPy0:Hid (PyR w base h M nl (.int .i64 ((0:Nat):Int)) p4):=by
  have hft:Fit h.p pl0:=by rw [hm_p HCf.out.1 HCf.out.2.1 HCf.out.2.2];exact fit_new hc hn HW0.out.small
  refine⟨0,pl0,_,rm0,h.bo,h.bl,N,none,0,[],none,0,x3,y3,Z3,rfl,Nat.zero_le _,hid ⟨?_,hft,tre_new,like_new,by rw [hbase];exact HMx.out,fun j hj=>?_,?_,below_call Hb3.out HBp4.out⟩⟩
  ·exact Mw.later (Mw.later ⟨_,_,HMd.out⟩ HBp3.out) HBp4.out
  ·have hj2:j<p2.heap.size:=Mw.lt ⟨_,_,HMd.out⟩ j hj
   have:=HBp3.out.size
   exact⟨fun e=>by have:=(HMx.out.rng j e).1;omega,fun e=>by have:=HDr.out j e;omega⟩
  ·have:=HLo.out;have:=HB.out.size;have:=HB1.out.size;omega
 clear hbase hpe HMx HMd HRn HNw HRUN1 HWs1
 go_upto_region 12 with fail
 go_loopw [10] (PyR w base h M nl) (fun v _=>nl - S.ivN v)
 case atStart=>exact HPy0.out
 case round =>
  clear HPy0
  obtain⟨i,q,ff,r,bo,bl,N,z1,d1_,R1,z2,d2_,z3,d3_,R3,rfl,hi,HPy⟩:=hrel
  by_cases hlt:i<nl
  ·have hdl:decide ((i:Int)<(nl:Int))=true:=decide_eq_true (by omega)
   have hii:(i:Int)<(nl:Int):=by omega
   have h0i:(0:Int)≤(i:Int):=by omega
   obtain⟨cl,hcl⟩:∃cl,C[i]?=some cl:=⟨_,List.getElem?_eq_getElem (by have:=HLen.out;omega)⟩
   obtain⟨b,o,rfl,hr⟩:=HC0.out.at_ (by omega)
   obtain⟨dd,hdd⟩:∃dd,dd=D' i:=⟨_,rfl⟩
   obtain⟨gg,hgg⟩:∃gg,gg=G' i:=⟨_,rfl⟩
   have hrc:=hr i cl hcl
   obtain⟨his,hsd,hsg⟩:=HC0.out.is i cl hcl
   rw [←hdd,←hgg] at hrc his
   rw [←hdd] at hsd
   rw [←hgg] at hsg
   have HRc:Hid (∀U,Below w.heap.size w U→U.rangeAt b (o+i*13) (R.cC cl dd gg)):=fun U hU j v hv=>cell_later hU (hrc j v hv)
   have hbw:b<w.heap.size:=World.block_lt_of_cell? _ _ (hrc 0 _ rfl)
   have HIs:=hid his
   have HLc:=hid (ldC_at (HRc.out wr HPy.out.bel))
   have HCp:=hid (copied_own (his.later HPy.out.bel) hsd hsg)
   obtain⟨rr,hrr⟩:∃rr,rr=rDo M.p r cl:=⟨_,rfl⟩
   obtain⟨q2,hq2⟩:∃q2,q2=(pDo h.p q cl).2:=⟨_,rfl⟩
   obtain⟨hk1,hk2⟩:=like_do HPy.out.like HPy.out.fit cl
   have hrr2:rr=rDo h.p r cl:=by rw [hrr,HPe.out]
   have HPq:Hid ((rr.1,q2)=pDo h.p q cl):=by unfold Hid;rw [hrr2,←hk1,hq2]
   have HLk:Hid (∃f',Like q2 f' rr.2):=by unfold Hid;rw [hq2,hrr2];exact hk2
   have HFt2:Hid (Fit h.p q2):=by unfold Hid;rw [hq2];exact fit_is HPy.out.fit his
   have HTr2:Hid (TreA q2):=by unfold Hid;rw [hq2];exact tre_do HPy.out.tre HPy.out.fit.ro cl
   have HDl:Hid (rr.1.data.length≤1024):=by unfold Hid;rw [hrr2,←hk1];exact pdo_data _ _ _
   have HRr:=hid hrr
   have hgU:h.g<wr.heap.size:=HPy.out.md.lt h.g (.inr (.inr (.inr rfl)))
   have hgw:=HPy.out.lo
   clear hcl hr hrc his hrr hrr2 hq2 hk1 hk2
   have HSd:=hid hsd
   have HSg:=hid hsg
   have HDo:Hid (∀(u1:World) (d1 g1:R.Sl),CO u1 wr.heap.size cl d1 g1→Below wr.heap.size wr u1→Calls Tryz.prog 8 #[.pointer (some ⟨M.b,0,none⟩),.agg (R.cC cl d1 g1).toArray] u1 (RmP u1 base M (MxN M z1 R1 z2 z3 R3) rr)):=fun u1 d1 g1 hco hb=>by
    rw [HRr.out]
    have hrf:RF M.p r:=by rw [HPe.out];exact HPy.out.like.rf HPy.out.fit
    exact rdo_any (HPy.out.mx.later hb) (by have:=(HPy.out.mx.rng M.b (.inl rfl));have:=hb.size;omega) hrf HMayC.out (HPy.out.like.hvr HPy.out.fit) (HPy.out.like.hpr HPy.out.fit) HPy.out.like.hon hco.is (Fl.own hco.g) (fun j hj hj2=>by have:=hco.d.blk j hj;have:=(HPy.out.mx.rng j hj2).2;omega)
   have HgU:=hid hgU
   have Hwi:Hid (wrap64 ((i:Int)+1)=(i:Int)+1):=by unfold Hid wrap64;omega
   have Hgw:=hid hgw
   have Hbw:=hid hbw
   clear hd hd2 hsd hsg hdd hgg hgU hgw hbw hnl2 hn
   go_upto_region 15 with (first|((with_reducible refine R.ld_arm HLc.out ?_ ?_);(· rfl))|(go_at_call 9;refine HCp.out.mono ?_;rintro e u1 ⟨d1,g1,rfl,hm,hb⟩;have HU1:=hid hb;have HDr2:=hid (HDo.out u1 d1 g1 hm hb);clear hm hb)|(go_at_call 8;refine HDr2.out.mono ?_;rintro e u2 ⟨aw,n2,cw,b1,e1,P1,b2,e2,b3,e3,P3,rfl,hO,hx,hbt,hnn,ha⟩;have HO2:=hid hO;have HMx2:=hid hx;have HB2:=hid hbt;have HN2:=hid hnn;have HSt2:=hid (Zr.st (Zr.new u2) rr.1 aw n2 cw);clear hO hx hbt hnn ha)|((with_reducible refine st_arm HSt2.out ?_ ?_ ?_);(· rfl);(· rfl)))
   obtain⟨V3,hV3⟩:∃V,V=(u2.alloc z6).setCells u2.heap.size 0 (rpL rr.1 aw n2 cw):=⟨_,rfl⟩
   have HX3:Hid (R.Bx V3 u2.heap.size (rpL rr.1 aw n2 cw)):=by rw [hV3];exact R.Bx.set (R.Bx.new u2 [.int .i64 0,.int .i64 0,.int .u64 0,.int .u64 0,.slice none 0 0,.int .i64 0] 41) rfl
   have HB3:Hid (Below u2.heap.size u2 V3):=by rw [hV3];exact But.below (below1 _ _) (R.setCells_but (S:=(·=u2.heap.size)) rfl _ 0 (But.refl _ _)) (fun k e=>by omega)
   rw [←hV3]
   clear hV3 HCp HDr2 HLc HSt2 HDo
   obtain⟨rb,hrb⟩:∃rb,rb=u2.heap.size:=⟨_,rfl⟩
   have s1:=HU1.out.size
   have hgU:=HgU.out
   have hgw:=Hgw.out
   have hbw:=Hbw.out
   have s2:=HB2.out.size
   have hgr:h.g<rb:=by omega
   have hw2:Below w.heap.size w u2:=But.below (below_call HPy.out.bel HU1.out) HB2.out (fun j hj=>Nat.le_trans HBs.out (HPy.out.mx.rng j hj).1)
   have hw3:Below w.heap.size w V3:=below_call hw2 HB3.out
   have HS15:Hid (∀U:World,But (·=h.g) V3 U→U.rangeAt b (o+i*13) (R.cC cl dd gg)∧R.Bx U rb (rpL rr.1 aw n2 cw)):=fun U hU=>⟨fun j v hv=>cell_but hU (HRc.out V3 hw3 j v hv) (fun e=>by have e:b=h.g:=e;omega),R.Bx.but hU (by rw [hrb];exact HX3.out) (fun e=>by omega)⟩
   have HOw:Hid (∀U:World,But (·=h.g) V3 U→Own U u1.heap.size 5 aw n2 cw (S.u8s rr.1.data)):=fun U hU=>Own.but hU (Own.later HB3.out HO2.out) (fun j hj e=>by have:=HO2.out.blk j hj;omega)
   have HMw3:Hid (Mw V3 { h with bo:=bo,bl:=bl } q N):=(HPy.out.pl HU1.out HB2.out).later HB3.out
   have HCp3:=hid (copied_own (R.Is.later (Below.refl _ V3).drew (R.Is.later hw3 HIs.out)) HSd.out HSg.out)
   rw [←hrb]
   clear hw2 hw3 s1 s2 hgr hrb hbw hgU hgw
   refine wp_region_held_drew (S:=(fun U:World=>U.rangeAt b (o+i*13) (R.cC cl dd gg)∧R.Bx U rb (rpL rr.1 aw n2 cw))) (by kernel_rfl) (HS15.out _ (But.of (Below.refl _ _).drew)) (fun hHeld=>?_)
   refine nm 10 0 10 ?_
   refine tn 0 10 1 9 ?_
   simp only [zz]
   refine tn 1 10 3 8 ?_
   simp only [zz]
   refine tn 2 10 7 7 ?_
   simp only [zz]
   refine tn 3 10 15 6 ?_
   simp only [zz]
   refine tv 4 (v:=.agg (R.cC cl dd gg).toArray) ?_ ?_
   ·(intro w hSw;(try dsimp only at hSw);exact ex_ld rfl rfl (ldC_at hSw.1))
   simp only [zz]
   refine nm 10 31 5 ?_
   refine tv 7 (v:=rpV rr.1 aw n2 cw) ?_ ?_
   ·(intro w hSw;(try dsimp only at hSw);exact ex_ld rfl rfl (ldR_at (o:=0) hSw.2.range))
   simp only [zz]
   refine nm 10 159 4 ?_
   refine zr 5 fun K hK=>?_
   go_simp
   go_wp2_with (first|(go_at_call 9;refine HCp3.out.mono ?_;rintro e u4 ⟨d4,g4,rfl,hm,hb⟩;have HU4:Hid (Below V3.heap.size V3 u4):=below_call (Below.refl _ _).drew hb;have HDp:=hid (do_mw (HMw3.out.later HU4.out) HPy.out.fit HMay.out hm.is HPq.out);clear hm hb))
   refine zk hK 10 191 3 (HS15.out _ (But.of HU4.out)) fun hHeld=>?_
   clear hK K
   try simp only [zz]
   refine zr 6 fun K hK=>?_
   go_simp
   go_wp2_with (first|(go_at_call 11;refine HDp.out.mono ?_;rintro e u5 ⟨ar,n5,c5,bo2,bl2,N2,rfl,hO,hm,hg,hn_,ha⟩;have HO5:=hid hO;have HM5:=hid hm;have HG5:=hid hg;have HN5:=hid hn_;have HSm:=hid (same_of hO (HOw.out _ ((But.of HU4.out).trans hg)) HDl.out);clear hO hm hg hn_ ha))
   refine zk hK 10 255 2 (HS15.out _ ((But.of HU4.out).trans HG5.out)) fun hHeld=>?_
   clear hK K
   try simp only [zz]
   refine zr 8 fun K hK=>?_
   go_simp
   go_wp2_with (first|(go_at_call 10;refine HSm.out.mono ?_;rintro e u6 ⟨rfl,hb⟩;have HU6:=hid hb;clear hb))
   refine zk hK 10 511 1 (HS15.out _ (((But.of HU4.out).trans HG5.out).call HU6.out)) fun hHeld=>?_
   clear hK K
   try simp only [zz]
   refine tn 9 10 1023 0 ?_
   simp only [zz]
   refine zn ?_ _
   have HF9:Hid (PyR w base h M nl (.int .i64 ((i+1:Nat):Int)) u6):=by
    obtain⟨ff2,HL2⟩:=HLk.out
    exact⟨i+1,_,_,_,_,_,_,_,_,_,_,_,_,_,_,rfl,hlt,hid (HPy.out.next HBs.out HU1.out HMx2.out HB2.out HN2.out (below_call HB3.out HU4.out) HM5.out HG5.out HN5.out HU6.out HFt2.out HTr2.out HL2)⟩
   go_wp2
   rw [Hwi.out]
   exact⟨HF9.out,by simp [S.ivN];omega⟩
  ·obtain rfl:i=nl:=by omega
   have hdl:decide ((i:Int)<(i:Int))=false:=by simp
   have HPs:=hid (HPy.out.like.ps HPy.out.tre)
   have HSma:=hid (small_ps HPy.out.fit HPy.out.tre)
   have HS1:Hid (Calls Tryz.prog 13 #[.pointer (some ⟨h.g,0,none⟩)] wr (StRets wr (psP q))):=by
    obtain⟨Es,Ls,km⟩:=HPy.out.md
    exact state_any (h:={ h with bo:=bo,bl:=bl }) km HPy.out.fit HPy.out.tre
   have HS2:Hid (∀U:World,Below wr.heap.size wr U→Calls Tryz.prog 14 #[.pointer (some ⟨M.b,0,none⟩)] U (StRets U (psP q))):=fun U hU=>by
    rw [←HPs.out]
    exact rstate_any (HPy.out.mx.later hU) (by rw [HPe.out];exact HPy.out.like.rf HPy.out.fit) HPy.out.like.beh (HPy.out.like.tkl HPy.out.fit HPy.out.tre)
   clear hd hd2
   go_wp2_with (first|(go_at_call 13;refine HS1.out.mono ?_;rintro e u7 ⟨k1,l1,O1,k2,l2,k3,l3,O3,rfl,hT,hb⟩;have HT7:=hid hT;have HB7:=hid hb;have HS2:=hid (HS2.out _ hb);clear hT hb)|(go_at_call 14;refine HS2.out.mono ?_;rintro e u8 ⟨m1,n1,L1,m2,n2,m3,n3,L3,rfl,hT,hb⟩;have HB8:=hid hb;have HSs:=hid (sameState_eq (psP q) (c1:=l1) (c2:=l2) (c3:=l3) (d1:=n1) (d2:=n2) (d3:=n3) (Tells.look (HT7.out.later hb)) (Tells.look hT) HSma.out);clear hT hb)|(go_at_call 12;refine HSs.out.mono ?_;rintro e u9 ⟨rfl,hb⟩;have HB9:=hid hb;clear hb))
   go_ret
   exact⟨rfl,below_call HPy.out.bel (below_call HB7.out (below_call HB8.out HB9.out))⟩
end
end Go.Proofs.YtffmodpgddecnaaGreat.V.E
