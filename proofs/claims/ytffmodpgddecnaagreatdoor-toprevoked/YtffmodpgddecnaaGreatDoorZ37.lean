import Derived.Test.YtffmodpgddecnaaGreatDoorZ34
import Derived.Test.YtffmodpgddecnaaGreatDoorZ36
set_option linter.unusedVariables false
set_option linter.unusedSimpArgs false
set_option maxRecDepth 1000000
set_option maxHeartbeats 8000000
namespace Go.Proofs.YtffmodpgddecnaaGreatDoor.V
open Go.RowKit
open Go.Proofs.YtffmodpgddecnaaGreatDoor.H (aq Cp)
open Go.Proofs.YtffmodpgddecnaaGreatDoor.M (ba bR)
section
variable {w w':World}
theorem Fz {P:Program}{w:World}{o:Oper}{ρ:Operand->Value}{ty:TypeId}{x:Operand}{p v:Value}
  (ho:o.op=.load ty x) (hx:ρ x=p) (hr:(Instr.loadAt ty p).run P w=.ok v w):(execOp ρ o).run P w=.ok (.value v) w:=by
 unfold execOp;simp only [ho,hx,hr,Sem.run_bind,Sem.run_pure,Result.andThen_ok]
theorem Du {T T':List Tok}{j:Nat}{t:Tok}(h:T[j]?=some t):wx (T.take (j+1)) T'=wx (T.take j) T'++(if jd T' t.1 then [] else [t.1]):=by
 obtain⟨hj,e⟩:=List.getElem?_eq_some_iff.1 h
 unfold wx;rw [List.take_succ_eq_append_getElem hj,List.filter_append,List.map_append,e];congr 1
 cases hq:jd T' t.1<;>simp [hq]
theorem sW (T T':List Tok):(wx T T').length<=T.length:=by
 unfold wx;rw [List.length_map];exact List.length_filter_le _ _
theorem J4 {U U':World}{base:Nat}{a:Option Addr}{n c:Nat}{L:List Value}(hO:Ow U base 37 3 a n c L)(hb:base<=U.heap.size)(hU:Below U.heap.size U U')(x:Cp)(hn:n<=1099511627776) :
  ∃a' c' w3,(Builtin.append_ #[71,71] 71 #[.slice a n c,.slice (some ⟨U'.heap.size,0,none⟩) 1 1]).run Tryz.prog (U'.alloc (Obj.cells (cH x).toArray 37))=.ok (.slice a' (n+1) c') w3/\Ow w3 base 37 3 a' (n+1) c' (L++cH x)/\ah (aJ a) U w3/\(∀j,aJ a' j->aJ a j\/U.heap.size<=j):=by
 have hcr:=Cr.lit U' 37 (cH x) (gM x)
 obtain⟨a',c',w3,hrun,hO3,hG0⟩:=er 71 37 _ 3 24 Tryz.underlying71 iz rfl (by omega) (by omega) ((hO.later hU).later (ae U' (Obj.cells (cH x).toArray 37))) hcr (by have:=hU.size;simp;omega) (by omega)
 have hG:=hG0.pre (ae U' (Obj.cells (cH x).toArray 37))
 refine⟨a',c',w3,hrun,hO3,(ah.of hU).trans hG.but,λj hj=>?_⟩
 rcases hG.on j hj with h1|h1
 ·exact .inl h1
 ·exact .inr (Nat.le_trans hU.size h1)
theorem J2 (p:Pm)(m:Nat):B_ p (sa m [0]) []:=⟨λx h=>(by cases h),λx h=>(by cases h),λy hy=>(by simp [sa,aj] at hy)⟩
theorem yA {H:Hd}{s:aP}{N:Nat->Prop}(h:Kn w H s N):KF H.p s:=by obtain⟨d,h1,h2,h3,_⟩:=h;exact h3
def Av (c:R.Cl):Bool:=decide (c.op=2)||(decide (c.op=3)||(decide (c.op=4)||((decide (c.op=5)||decide (c.op=6))&&c.given)))
def KO (w:World)(H:Hd)(n:Nat)(v9 K6:Value)(U:World):Prop:=∃(i:Nat) (s:aP) (N:Nat->Prop) (ga:Option Addr) (gc:Nat) (G:List Cp),v9=.slice ga G.length gc/\K6=.int .i64 (i:Int)/\i<=n/\Hid (G.length<=i*1048576)/\Hid (Kn U H s N)/\Hid (∀k,N k->w.heap.size<=k)/\Hid (Below w.heap.size w U)/\Hid (Ow U w.heap.size 37 3 ga G.length gc (aF G))/\Hid (∀k,aJ ga k->¬N k)/\Hid (B_ H.p s G)
def KE (Y:World)(base:Nat)(ga0:Option Addr)(G:List Cp)(T T':List Tok)(v9 La:Value)(U:World):Prop:=∃(j:Nat) (ga:Option Addr) (gc:Nat) (K:List Cp),v9=.slice ga K.length gc/\La=.int .i64 (j:Int)/\j<=T.length/\Hid (K=G++wx (T.take j) T')/\Hid (Ow U base 37 3 ga K.length gc (aF K))/\Hid (∀k,aJ ga k->aJ ga0 k\/Y.heap.size<=k)/\Hid (ah (aJ ga0) Y U)
def KQ (Y:World)(n:Nat)(v:Value)(U:World):Prop:=∃j:Nat,v=.int .i64 (j:Int)/\j<=n/\Hid (Below Y.heap.size Y U)
def pR:Code->Code
 | .seq _ b=>b
 | c=>c
def pL:Code->Code
 | .seq a _=>a
 | c=>c
def pI:Code->Code
 | .block _ c=>c
 | .loop c=>c
 | .scope c=>c
 | .cond _ a _=>a
 | c=>c
def rs:Nat->Code->Code
 | 0,c=>c
 | n+1,.seq _ b=>rs n b
 | _+1,c=>c
def wI (b:Option Code):Code:=pI (pL (pR (pI (pI (pR (pL (rs 9 (b.getD .skip))))))))
structure Rb (U:World)(base:Nat)(p p':Ps)(bw bc br bn:Nat)(cl:R.Cl)(dd gg:R.Sl)(r:dk)(ra:Option Addr)(rn rc:Nat)(a1:Option Addr)(e1:Nat)(Q1:List Ev)(a2:Option Addr)(e2:Nat)(a3:Option Addr)(e3:Nat)(Q3:List Ev)(b1:Option Addr)(f1:Nat)(R1:List Ev)(b2:Option Addr)(f2:Nat)(b3:Option Addr)(f3:Nat)(R3:List Ev):Prop where
 pf:R.Bx U bw (stM a1 p.O.length e1 a2 p.T.length e2 a3 p.P.length e3 p.nx p.px p.t)
 call:R.Bx U bc (R.cC cl dd gg)
 rep:R.Bx U br (fM r ra rn rc)
 now:R.Bx U bn (stM b1 p'.O.length f1 b2 p'.T.length f2 b3 p'.P.length f3 p'.nx p'.px p'.t)
 tw:dL U base p a1 e1 Q1 a2 e2 a3 e3 Q3
 tn:dL U base p' b1 f1 R1 b2 f2 b3 f3 R3
 lo:base<=bw/\base<=bc/\base<=br/\base<=bn
theorem Rb.but {U U':World}{base:Nat}{p p':Ps}{bw bc br bn:Nat}{cl:R.Cl}{dd gg:R.Sl}{r:dk}{ra:Option Addr}{rn rc:Nat}{a1:Option Addr}{e1:Nat}{Q1:List Ev}{a2:Option Addr}{e2:Nat}{a3:Option Addr}{e3:Nat}{Q3:List Ev}{b1:Option Addr}{f1:Nat}{R1:List Ev}{b2:Option Addr}{f2:Nat}{b3:Option Addr}{f3:Nat}{R3:List Ev}{S:Nat->Prop}
  (h:Rb U base p p' bw bc br bn cl dd gg r ra rn rc a1 e1 Q1 a2 e2 a3 e3 Q3 b1 f1 R1 b2 f2 b3 f3 R3) (hb:ah S U U') (hS:∀k,S k->k<base):Rb U' base p p' bw bc br bn cl dd gg r ra rn rc a1 e1 Q1 a2 e2 a3 e3 Q3 b1 f1 R1 b2 f2 b3 f3 R3 :=
 ⟨R.Bx.but hb h.pf (λe=>by have:=hS _ e;have:=h.lo;omega),R.Bx.but hb h.call (λe=>by have:=hS _ e;have:=h.lo;omega),R.Bx.but hb h.rep (λe=>by have:=hS _ e;have:=h.lo;omega),R.Bx.but hb h.now (λe=>by have:=hS _ e;have:=h.lo;omega),
  h.tw.but hb (λj hj _ e=>by have:=hS _ e;omega),h.tn.but hb (λj hj _ e=>by have:=hS _ e;omega),h.lo⟩
section
theorem D2 {u0 u1 u2 u3 u4 u5 u6 u7 u8 K6 Lc Ld Le Lf Lg Lh Lj Lk Ll Lm Ln Lo Lp Lq Ls Lt Lu Lv Lw Lx Ly Lz LA LB LC LD LF LG LH LI LJ LK LL LM LN LO LP LQ LR LS LU LV LW LX LY LZ L0 L3 L5 L6 L7 L8 L9 L_ Ma Mb Mc Md Me Mf Mg Mh Mi Mj Ml Mm Mn Mo Mq Mr Ms Mt Mu Mv Mw Mx My Mz MA MB MC MD ME MF MG MH MI MJ MK ML MM MN MO MP MQ MR MS MT MU MV MW MX MY MZ M0 M1 M4 M5 M6 M7 M8 M9 M_ Na Nb Nc Nf Ng Nh Ni Nj Nk Nl Nm Nn Np Nq Nr Ns Nt Nu Nv Nw Nx Ny Nz NA NB NC ND NF NG NH NI NJ NK NL NM NN NO NP NQ NR NS NT NU NV NW NX NY NZ N_ Oa Oc Od Oe Of Og Oh Oi Oj Ol Om On Oo Oq Ot Ou Ov Ox Oy Oz OA OB OC OD OE OG OH OI OJ OK OL OM ON OO OQ OS OT OU OV OW OX OY OZ O0 O1 O2 O3 O4 O5 O6 O7 O8 O9 O_ Pb Pc:Value}{Qx:Exit->Act->World->Prop}{p p':Ps}{cl:R.Cl}{dd gg:R.Sl}{r:dk}{ra:Option Addr}{rn rc:Nat}{Y:World}{b0 bw bc br bn:Nat}{a1:Option Addr}{e1:Nat}{Q1:List Ev}{a2:Option Addr}{e2:Nat}{a3:Option Addr}{e3:Nat}{Q3:List Ev}{b1:Option Addr}{f1:Nat}{R1:List Ev}{b2:Option Addr}{f2:Nat}{b3:Option Addr}{f3:Nat}{R3:List Ev}
  (hRb:Rb Y b0 p p' bw bc br bn cl dd gg r ra rn rc a1 e1 Q1 a2 e2 a3 e3 Q3 b1 f1 R1 b2 f2 b3 f3 R3) (hsm:p.Small) (hsm':p'.Small) (hP:∀c a d v w,Qx (.panic c) (Act.put a d v) w->Qx (.panic c) a w) {G:List Cp} {ga:Option Addr} {gc base:Nat} (hG0:∀k,aJ ga k->k<b0) (hOw:Ow Y base 37 3 ga G.length gc (aF G)) (hbase:base<=Y.heap.size) (hGb:G.length<=104857600) (hgo:∀t∈p.T,jd p'.T t.1=false->(cl.op=4/\r.code=0)\/((cl.op != 4)=true/\cl.op=2/\r.code=0))
  (hK:∀(gj:Option Addr) (gcj:Nat) (Gj:List Cp) (w':World),Gj=G++wx p.T p'.T/\Ow w' base 37 3 gj Gj.length gcj (aF Gj)/\(∀k,aJ gj k->aJ ga k\/Y.heap.size<=k)/\ah (aJ ga) Y w'->∀(v6 La Ma Mb Mc Md Me Mf Mg Mh Mi Mj Ml Mm Mn Mo Mq Mr Ms Mt Mu Mv Mw Mx My Mz MA MB MC MD ME MF MG MH MI MJ MK ML MM MN MO:Value),Qx .normal ⟨List.toArray (u0::u1::u2::u3::u4::u5::v6::u7::u8::.slice gj Gj.length gcj::K6::.pointer (some ⟨bc,0,none⟩)::.pointer (some ⟨bw,0,none⟩)::.pointer (some ⟨br,0,none⟩)::.pointer (some ⟨bn,0,none⟩)::La::Lc::Ld::Le::Lf::Lg::Lh::Lj::Lk::Ll::Lm::Ln::Lo::Lp::Lq::Ls::Lt::Lu::Lv::Lw::Lx::Ly::Lz::LA::LB::LC::LD::LF::LG::LH::LI::LJ::LK::LL::LM::LN::LO::LP::LQ::LR::LS::LU::LV::LW::LX::LY::LZ::L0::L3::L5::L6::L7::L8::L9::L_::Ma::Mb::Mc::Md::Me::Mf::Mg::Mh::Mi::Mj::Ml::Mm::Mn::Mo::Mq::Mr::Ms::Mt::Mu::Mv::Mw::Mx::My::Mz::MA::MB::MC::MD::ME::MF::MG::MH::MI::MJ::MK::ML::MM::MN::MO::MP::MQ::MR::MS::MT::MU::MV::MW::MX::MY::MZ::M0::M1::M4::M5::M6::M7::M8::M9::M_::Na::Nb::Nc::Nf::Ng::Nh::Ni::Nj::Nk::Nl::Nm::Nn::Np::Nq::Nr::Ns::Nt::Nu::Nv::Nw::Nx::Ny::Nz::NA::NB::NC::ND::NF::NG::NH::NI::NJ::NK::NL::NM::NN::NO::NP::NQ::NR::NS::NT::NU::NV::NW::NX::NY::NZ::N_::Oa::Oc::Od::Oe::Of::Og::Oh::Oi::Oj::Ol::Om::On::Oo::Oq::Ot::Ou::Ov::Ox::Oy::Oz::OA::OB::OC::OD::OE::OG::OH::OI::OJ::OK::OL::OM::ON::OO::OQ::OS::OT::OU::OV::OW::OX::OY::OZ::O0::O1::O2::O3::O4::O5::O6::O7::O8::O9::O_::Pb::Pc::[]),[]⟩ w') :
  Code.wp Tryz.prog (pR (pL (rs 4 (wI Tryz.f7.body)))) Qx ⟨List.toArray (u0::u1::u2::u3::u4::u5::u6::u7::u8::.slice ga G.length gc::K6::.pointer (some ⟨bc,0,none⟩)::.pointer (some ⟨bw,0,none⟩)::.pointer (some ⟨br,0,none⟩)::.pointer (some ⟨bn,0,none⟩)::.int .i64 0::Lc::Ld::Le::Lf::Lg::Lh::Lj::Lk::Ll::Lm::Ln::Lo::Lp::Lq::Ls::Lt::Lu::Lv::Lw::Lx::Ly::Lz::LA::LB::LC::LD::LF::LG::LH::LI::LJ::LK::LL::LM::LN::LO::LP::LQ::LR::LS::LU::LV::LW::LX::LY::LZ::L0::L3::L5::L6::L7::L8::L9::L_::Ma::Mb::Mc::Md::Me::Mf::Mg::Mh::Mi::Mj::Ml::Mm::Mn::Mo::Mq::Mr::Ms::Mt::Mu::Mv::Mw::Mx::My::Mz::MA::MB::MC::MD::ME::MF::MG::MH::MI::MJ::MK::ML::MM::MN::MO::MP::MQ::MR::MS::MT::MU::MV::MW::MX::MY::MZ::M0::M1::M4::M5::M6::M7::M8::M9::M_::Na::Nb::Nc::Nf::Ng::Nh::Ni::Nj::Nk::Nl::Nm::Nn::Np::Nq::Nr::Ns::Nt::Nu::Nv::Nw::Nx::Ny::Nz::NA::NB::NC::ND::NF::NG::NH::NI::NJ::NK::NL::NM::NN::NO::NP::NQ::NR::NS::NT::NU::NV::NW::NX::NY::NZ::N_::Oa::Oc::Od::Oe::Of::Og::Oh::Oi::Oj::Ol::Om::On::Oo::Oq::Ot::Ou::Ov::Ox::Oy::Oz::OA::OB::OC::OD::OE::OG::OH::OI::OJ::OK::OL::OM::ON::OO::OQ::OS::OT::OU::OV::OW::OX::OY::OZ::O0::O1::O2::O3::O4::O5::O6::O7::O8::O9::O_::Pb::Pc::[]),[]⟩ Y:=by
 conv=>arg 2;whnf
 have PR:=ab hRb
 have PG:=ab hsm
 have PJ:=ab hsm'
 have PF:=ab hP
 have HK:=ab hK
 have Rw:=ab hG0
 have Rl:=ab hOw
 have UD:=ab hbase
 have SF:=ab hGb
 have R_:=ab hgo
 clear hRb hsm hsm' hP hK hG0 hOw hbase hGb hgo;go_upto_region 21 with fail
 go_loopw [9,15] (KE Y base ga G p.T p'.T) (λ_ v _=>p.T.length - S.fe v)
 case atStart=>exact⟨0,ga,gc,G,rfl,rfl,Nat.zero_le _,ab (by simp [wx]),Rl,ab (λk h=>.inl h),ab (ah.refl _ _)⟩
 case round =>
  obtain⟨v1,rfl⟩:∃v1,v1=wr:=⟨_,rfl⟩
  obtain⟨j,gj,gcj,Gj,rfl,rfl,hj,Rc,SA,P3,Ra⟩:=hrel
  have Rt:=ab (PR.out.but Ra.out Rw.out)
  have hpl:=PG.out.t
  have w1:=Rt.out.pf.cell 1 rfl
  by_cases hjl:j<p.T.length
  ·have hdj:decide ((j:Int)<(p.T.length:Int))=true:=decide_eq_true (by omega)
   obtain⟨t,ht⟩:∃t,p.T[j]?=some t:=⟨_,List.getElem?_eq_getElem hjl⟩
   obtain⟨gt,rfl,c0,c1,c2,c3,c4⟩:=g5 Rt.out.tw.look.t ht
   have n1:=Rt.out.now.cell 1 rfl
   have TJ:=ab (R_.out t (List.mem_of_getElem? ht))
   obtain⟨⟨tb,th,tl⟩,tr,tq⟩:=t
   simp only at c0 c1 c2 TJ;obtain⟨e,he⟩:∃e,e=jd p'.T (tb,th,tl):=⟨_,rfl⟩
   have HE:=ab he
   have WY:Hid (∀U,Below v1.heap.size v1 U->Calls Tryz.prog 34 #[.slice b2 p'.T.length f2,.agg #[.int .i64 tb,.int .u64 (th:Int),.int .u64 (tl:Int)]] U λe' w'=>e'=.returned (.bool e)/\Below U.heap.size U w'):=λU hU=>by
    rw [he];exact bo (Rt.out.tn.look.t.later hU) (Nat.le_trans PJ.out.t (by decide)) (tb,th,tl)
   have SH:=ab (Du (T':=p'.T) ht)
   simp only at SH;rw [<-he] at SH;have U6:Hid (∀U,Below v1.heap.size v1 U->U.cell? ⟨bn,1,none⟩=some (.slice b2 p'.T.length f2)/\U.cell? ⟨bw,1,none⟩=some (.slice (some ⟨gt,0,none⟩) p.T.length e2)/\U.cell? ⟨gt,j*5,none⟩=some (.int .i64 tb)/\U.cell? ⟨gt,j*5+1,none⟩=some (.int .u64 (th:Int))/\U.cell? ⟨gt,j*5+2,none⟩=some (.int .u64 (tl:Int))):=λU hU=>⟨cell_later hU n1,cell_later hU w1,cell_later hU c0,cell_later hU c1,cell_later hU c2⟩
   have TX:=ab (Rt.out.call.cell 0 rfl)
   have Xg:=ab (Rt.out.rep.cell 0 rfl)
   clear ht he c0 c1 c2 c3 c4 n1;go_upto_region 23 with fail
   clear w1;refine wp_region_held_drew (S:=(λU:World=>U.cell? ⟨bn,1,none⟩=some (.slice b2 p'.T.length f2)/\U.cell? ⟨bw,1,none⟩=some (.slice (some ⟨gt,0,none⟩) p.T.length e2)/\U.cell? ⟨gt,j*5,none⟩=some (.int .i64 tb)/\U.cell? ⟨gt,j*5+1,none⟩=some (.int .u64 (th:Int))/\U.cell? ⟨gt,j*5+2,none⟩=some (.int .u64 (tl:Int)))) (by kernel_rfl) (U6.out _ (Below.refl _ _).drew) (λhHeld=>?_)
   refine nm 10 0 10 ?_
   refine tp 0 10 1 9 PF.out ?_
   simp only [zz];refine tp 1 10 3 8 PF.out ?_
   simp only [zz];refine tp 2 10 7 7 PF.out ?_
   simp only [zz];refine tp 3 10 15 6 PF.out ?_
   simp only [zz];refine tp 4 10 31 5 PF.out ?_
   simp only [zz];refine tp 5 10 63 4 PF.out ?_
   simp only [zz];refine tp 6 10 127 3 PF.out ?_
   simp only [zz];refine tp 7 10 255 2 PF.out ?_
   simp only [zz];refine zr 8 λK hK=>?_
   go_simp
   go_wp2_with (first|(go_at_call 34;refine (WY.out _ (Below.refl _ _).drew).mono ?_;rintro e1 u5 ⟨rfl,hb5⟩;have QJ:=ab (aa (Below.refl _ _).drew hb5);clear hb5))
   refine zk hK 10 511 1 (U6.out _ QJ.out) λhHeld=>?_
   clear hK K;try simp only [zz]
   refine tp 9 10 1023 0 PF.out ?_
   simp only [zz];refine zn ?_ _
   have hOw5:=SA.out.later QJ.out
   cases e with
   | true =>
    simp only [if_true,List.append_nil] at SH;go_wp2;refine⟨⟨j+1,gj,gcj,Gj,rfl,rfl,by omega,ab (by rw [SH.out];exact Rc.out),ab hOw5,P3,ab (Ra.out.call QJ.out)⟩,by simp [S.fe];omega⟩
   | false =>
    simp only [Bool.false_eq_true,if_false] at SH;have hor:=TJ.out HE.out.symm
    have hgl:Gj.length<=1099511627776:=by
     have h1:=sW (p.T.take j) p'.T
     have h2:=SF.out
     rw [Rc.out,List.length_append];rw [List.length_take] at h1;omega
    obtain⟨gk,gck,w7,hrun,hO7,hB7,hA7⟩:=J4 (U':=u5) hOw5 (Nat.le_trans UD.out (Nat.le_trans Ra.out.size QJ.out.size)) (Below.refl _ _) (tb,th,tl) hgl
    simp only [cH] at hrun;have PD:=ab hrun
    have Qk:Hid (KE Y base ga G p.T p'.T (.slice gk (Gj.length+1) gck) (.int .i64 ((j+1:Nat):Int)) w7):=by
     refine⟨j+1,gk,gck,Gj++[(tb,th,tl)],by rw [List.length_append];rfl,rfl,by omega,ab (by rw [SH.out,<-List.append_assoc,<-Rc.out]),?_,ab (λk hk=>?_),ab ((Ra.out.call QJ.out).comp hB7 P3.out)⟩
     ·unfold Hid
      rw [List.length_append,jG];exact hO7
     ·rcases hA7 k hk with h1|h1
      ·exact P3.out k h1
      ·exact .inr (Nat.le_trans Ra.out.size (Nat.le_trans QJ.out.size h1))
    have k0:=cell_later QJ.out TX.out
    have r0:=cell_later QJ.out Xg.out
    obtain⟨s0,s1,s2,s3,s4⟩:=U6.out u5 QJ.out
    obtain⟨cd,hcd⟩:∃cd,cd=r.code:=⟨_,rfl⟩
    rw [<-hcd] at r0 hor;clear hrun hO7 hB7 hA7 hOw5 hgl hcd;rcases hor with ⟨h1,rfl⟩|⟨h3,h1,rfl⟩
    ·rw [h1] at k0
     clear h1;go_wp2_with (first|(at_builtin;refine al rfl _ _ 71 rfl _ _ rfl rfl _ w7 PD.out ?_))
     exact⟨Qk.out,by simp [S.fe];omega⟩
    ·rw [h1] at k0 h3
     clear h1;go_wp2_with (first|(at_builtin;refine al rfl _ _ 71 rfl _ _ rfl rfl _ w7 PD.out ?_))
     exact⟨Qk.out,by simp [S.fe];omega⟩
  ·have hdj:decide ((j:Int)<(p.T.length:Int))=false:=decide_eq_false (by omega)
   have hjj:j=p.T.length:=by omega
   rw [hjj,List.take_length] at Rc;go_wp2;exact HK.out gj gcj Gj _ ⟨Rc.out,SA.out,P3.out,Ra.out⟩ _ _ _ _ _ _ _ _ _ _ _ _ _ _ _ _ _ _ _ _ _ _ _ _ _ _ _ _ _ _ _ _ _ _ _ _ _ _ _ _ _
theorem DS {u0 u1 u2 u3 u4 u5 u6 u7 u8 K6 La Ld Le Lf Lg Lh Lj Lk Ll Lm Ln Lo Lp Lq Ls Lt Lu Lv Lw Lx Ly Lz LA LB LC LD LF LG LH LI LJ LK LL LM LN LO LP LQ LR LS LU LV LW LX LY LZ L0 L3 L5 L6 L7 L8 L9 L_ Ma Mb Mc Md Me Mf Mg Mh Mi Mj Ml Mm Mn Mo Mq Mr Ms Mt Mu Mv Mw Mx My Mz MA MB MC MD ME MF MG MH MI MJ MK ML MM MN MO MP MQ MR MS MT MU MV MW MX MY MZ M0 M1 M4 M5 M6 M7 M8 M9 M_ Na Nb Nc Nf Ng Nh Ni Nj Nk Nl Nm Nn Np Nq Nr Ns Nt Nu Nv Nw Nx Ny Nz NA NB NC ND NF NG NH NI NJ NK NL NM NN NO NP NQ NR NS NT NU NV NW NX NY NZ N_ Oa Oc Od Oe Of Og Oh Oi Oj Ol Om On Oo Oq Ot Ou Ov Ox Oy Oz OA OB OC OD OE OG OH OI OJ OK OL OM ON OO OQ OS OT OU OV OW OX OY OZ O0 O1 O2 O3 O4 O5 O6 O7 O8 O9 O_ Pb Pc:Value}{Qx:Exit->Act->World->Prop}{p p':Ps}{cl:R.Cl}{dd gg:R.Sl}{r:dk}{ra:Option Addr}{rn rc:Nat}{Y:World}{b0 bw bc br bn:Nat}{a1:Option Addr}{e1:Nat}{Q1:List Ev}{a2:Option Addr}{e2:Nat}{a3:Option Addr}{e3:Nat}{Q3:List Ev}{b1:Option Addr}{f1:Nat}{R1:List Ev}{b2:Option Addr}{f2:Nat}{b3:Option Addr}{f3:Nat}{R3:List Ev}
  (hRb:Rb Y b0 p p' bw bc br bn cl dd gg r ra rn rc a1 e1 Q1 a2 e2 a3 e3 Q3 b1 f1 R1 b2 f2 b3 f3 R3) (hsm:p.Small) (hsm':p'.Small) (hP:∀c a d v w,Qx (.panic c) (Act.put a d v) w->Qx (.panic c) a w) {Gj:List Cp} {gj:Option Addr} {gcj:Nat} (hFg:Fl Y gj (aF Gj)) (hGz:Gj.length<=1099511627776) (hnow:∀t∈p'.T,sL Gj t.1=false/\(jd p.T t.1=true->r_ p.T t.1=t.2.1))
  (hK:∀(w':World),Below Y.heap.size Y w'->∀(v6 Lc MP MQ MR MS MT MU MV MW MX MY MZ M0 M1 M4 M5 M6 M7 M8 M9 M_ Na Nb Nc Nf Ng Nh Ni Nj Nk Nl Nm Nn Np Nq Nr Ns Nt Nu Nv Nw Nx Ny Nz NA:Value),Qx .normal ⟨List.toArray (u0::u1::u2::u3::u4::u5::v6::u7::u8::.slice gj Gj.length gcj::K6::.pointer (some ⟨bc,0,none⟩)::.pointer (some ⟨bw,0,none⟩)::.pointer (some ⟨br,0,none⟩)::.pointer (some ⟨bn,0,none⟩)::La::Lc::Ld::Le::Lf::Lg::Lh::Lj::Lk::Ll::Lm::Ln::Lo::Lp::Lq::Ls::Lt::Lu::Lv::Lw::Lx::Ly::Lz::LA::LB::LC::LD::LF::LG::LH::LI::LJ::LK::LL::LM::LN::LO::LP::LQ::LR::LS::LU::LV::LW::LX::LY::LZ::L0::L3::L5::L6::L7::L8::L9::L_::Ma::Mb::Mc::Md::Me::Mf::Mg::Mh::Mi::Mj::Ml::Mm::Mn::Mo::Mq::Mr::Ms::Mt::Mu::Mv::Mw::Mx::My::Mz::MA::MB::MC::MD::ME::MF::MG::MH::MI::MJ::MK::ML::MM::MN::MO::MP::MQ::MR::MS::MT::MU::MV::MW::MX::MY::MZ::M0::M1::M4::M5::M6::M7::M8::M9::M_::Na::Nb::Nc::Nf::Ng::Nh::Ni::Nj::Nk::Nl::Nm::Nn::Np::Nq::Nr::Ns::Nt::Nu::Nv::Nw::Nx::Ny::Nz::NA::NB::NC::ND::NF::NG::NH::NI::NJ::NK::NL::NM::NN::NO::NP::NQ::NR::NS::NT::NU::NV::NW::NX::NY::NZ::N_::Oa::Oc::Od::Oe::Of::Og::Oh::Oi::Oj::Ol::Om::On::Oo::Oq::Ot::Ou::Ov::Ox::Oy::Oz::OA::OB::OC::OD::OE::OG::OH::OI::OJ::OK::OL::OM::ON::OO::OQ::OS::OT::OU::OV::OW::OX::OY::OZ::O0::O1::O2::O3::O4::O5::O6::O7::O8::O9::O_::Pb::Pc::[]),[]⟩ w') :
  Code.wp Tryz.prog (pR (pL (rs 5 (wI Tryz.f7.body)))) Qx ⟨List.toArray (u0::u1::u2::u3::u4::u5::u6::u7::u8::.slice gj Gj.length gcj::K6::.pointer (some ⟨bc,0,none⟩)::.pointer (some ⟨bw,0,none⟩)::.pointer (some ⟨br,0,none⟩)::.pointer (some ⟨bn,0,none⟩)::La::.int .i64 0::Ld::Le::Lf::Lg::Lh::Lj::Lk::Ll::Lm::Ln::Lo::Lp::Lq::Ls::Lt::Lu::Lv::Lw::Lx::Ly::Lz::LA::LB::LC::LD::LF::LG::LH::LI::LJ::LK::LL::LM::LN::LO::LP::LQ::LR::LS::LU::LV::LW::LX::LY::LZ::L0::L3::L5::L6::L7::L8::L9::L_::Ma::Mb::Mc::Md::Me::Mf::Mg::Mh::Mi::Mj::Ml::Mm::Mn::Mo::Mq::Mr::Ms::Mt::Mu::Mv::Mw::Mx::My::Mz::MA::MB::MC::MD::ME::MF::MG::MH::MI::MJ::MK::ML::MM::MN::MO::MP::MQ::MR::MS::MT::MU::MV::MW::MX::MY::MZ::M0::M1::M4::M5::M6::M7::M8::M9::M_::Na::Nb::Nc::Nf::Ng::Nh::Ni::Nj::Nk::Nl::Nm::Nn::Np::Nq::Nr::Ns::Nt::Nu::Nv::Nw::Nx::Ny::Nz::NA::NB::NC::ND::NF::NG::NH::NI::NJ::NK::NL::NM::NN::NO::NP::NQ::NR::NS::NT::NU::NV::NW::NX::NY::NZ::N_::Oa::Oc::Od::Oe::Of::Og::Oh::Oi::Oj::Ol::Om::On::Oo::Oq::Ot::Ou::Ov::Ox::Oy::Oz::OA::OB::OC::OD::OE::OG::OH::OI::OJ::OK::OL::OM::ON::OO::OQ::OS::OT::OU::OV::OW::OX::OY::OZ::O0::O1::O2::O3::O4::O5::O6::O7::O8::O9::O_::Pb::Pc::[]),[]⟩ Y:=by
 conv=>arg 2;whnf
 have PR:=ab hRb
 have PG:=ab hsm
 have PJ:=ab hsm'
 have PF:=ab hP
 have HK:=ab hK
 have SJ:=ab hFg
 have SV:=ab hGz
 have RU:=ab hnow
 clear hRb hsm hsm' hP hK hFg hGz hnow;go_upto_region 28 with fail
 go_loopw [16] (KQ Y p'.T.length) (λv _=>p'.T.length - S.fe v)
 case atStart=>exact⟨0,rfl,Nat.zero_le _,ab (Below.refl _ _)⟩
 case round =>
  obtain⟨v2,rfl⟩:∃v2,v2=wr:=⟨_,rfl⟩
  obtain⟨m,rfl,hm,RV⟩:=hrel
  have Re:=ab (PR.out.but (ah.of (S:=λ_=>False) RV.out) (λk h=>h.elim))
  have hpl':=PJ.out.t
  have n1:=Re.out.now.cell 1 rfl
  by_cases hml:m<p'.T.length
  ·have hdm:decide ((m:Int)<(p'.T.length:Int))=true:=decide_eq_true (by omega)
   obtain⟨t,ht⟩:∃t,p'.T[m]?=some t:=⟨_,List.getElem?_eq_getElem hml⟩
   obtain⟨gt,rfl,c0,c1,c2,c3,c4⟩:=g5 Re.out.tn.look.t ht
   have w1:=Re.out.pf.cell 1 rfl
   have hnow:=RU.out t (List.mem_of_getElem? ht)
   obtain⟨⟨tb,th,tl⟩,tr,tq⟩:=t
   simp only at c0 c1 c2 c3 hnow;have Vs:Hid (jd p.T (tb,th,tl)=true->r_ p.T (tb,th,tl)=tr):=hnow.2
   obtain⟨e,he⟩:∃e,e=jd p.T (tb,th,tl):=⟨_,rfl⟩
   have HE:=ab he
   have Qb:Hid (∀U,Below v2.heap.size v2 U->Calls Tryz.prog 35 #[.slice gj Gj.length gcj,.agg #[.int .i64 tb,.int .u64 (th:Int),.int .u64 (tl:Int)]] U λe' w'=>e'=.returned (.bool false)/\Below U.heap.size U w'):=λU hU=>by
    rw [<-hnow.1];exact rz (SJ.out.later (aa RV.out hU)) SV.out (tb,th,tl)
   have P1:Hid (∀U,Below v2.heap.size v2 U->Calls Tryz.prog 34 #[.slice a2 p.T.length e2,.agg #[.int .i64 tb,.int .u64 (th:Int),.int .u64 (tl:Int)]] U λe' w'=>e'=.returned (.bool e)/\Below U.heap.size U w'):=λU hU=>by
    rw [he];exact bo (Re.out.tw.look.t.later hU) (Nat.le_trans PG.out.t (by decide)) (tb,th,tl)
   have Rs:Hid (e=true->∀U,Below v2.heap.size v2 U->Calls Tryz.prog 36 #[.slice a2 p.T.length e2,.agg #[.int .i64 tb,.int .u64 (th:Int),.int .u64 (tl:Int)]] U λe' w'=>e'=.returned (.int .i64 tr)/\Below U.heap.size U w'):=λh9 U hU=>by
    rw [<-Vs.out (by rw [<-HE.out];exact h9)]
    exact fD (Re.out.tw.look.t.later hU) (Nat.le_trans PG.out.t (by decide)) (tb,th,tl)
   have Ro:Hid (∀U,Below v2.heap.size v2 U->U.cell? ⟨bn,1,none⟩=some (.slice (some ⟨gt,0,none⟩) p'.T.length f2)/\U.cell? ⟨bw,1,none⟩=some (.slice a2 p.T.length e2)/\U.cell? ⟨gt,m*5,none⟩=some (.int .i64 tb)/\U.cell? ⟨gt,m*5+1,none⟩=some (.int .u64 (th:Int))/\U.cell? ⟨gt,m*5+2,none⟩=some (.int .u64 (tl:Int))/\U.cell? ⟨gt,m*5+3,none⟩=some (.int .i64 tr)):=λU hU=>⟨cell_later hU n1,cell_later hU w1,cell_later hU c0,cell_later hU c1,cell_later hU c2,cell_later hU c3⟩
   clear ht he c0 c1 c2 c3 c4 w1 hnow Vs;go_upto_region 30 with fail
   clear n1;cases e with
   | true =>
    have Vb:=ab (Rs.out rfl)
    refine wp_region_held_drew (S:=(λU:World=>U.cell? ⟨bn,1,none⟩=some (.slice (some ⟨gt,0,none⟩) p'.T.length f2)/\U.cell? ⟨bw,1,none⟩=some (.slice a2 p.T.length e2)/\U.cell? ⟨gt,m*5,none⟩=some (.int .i64 tb)/\U.cell? ⟨gt,m*5+1,none⟩=some (.int .u64 (th:Int))/\U.cell? ⟨gt,m*5+2,none⟩=some (.int .u64 (tl:Int))/\U.cell? ⟨gt,m*5+3,none⟩=some (.int .i64 tr))) (by kernel_rfl) (Ro.out _ (Below.refl _ _).drew) (λhHeld=>?_)
    refine nm 37 0 37 ?_
    refine tp 0 37 1 36 PF.out ?_
    simp only [zz];refine tp 1 37 3 35 PF.out ?_
    simp only [zz];refine tp 2 37 7 34 PF.out ?_
    simp only [zz];refine tp 3 37 15 33 PF.out ?_
    simp only [zz];refine tp 4 37 31 32 PF.out ?_
    simp only [zz];refine tp 5 37 63 31 PF.out ?_
    simp only [zz];refine tp 6 37 127 30 PF.out ?_
    simp only [zz];refine zr 7 λK hK=>?_
    go_simp
    go_wp2_with (first|(go_at_call 35;refine (Qb.out _ (Below.refl _ _).drew).mono ?_;rintro e1 q1 ⟨rfl,hb5⟩;have PZ:=ab (aa (Below.refl _ _).drew hb5);clear hb5))
    refine zk hK 37 255 29 (Ro.out _ PZ.out) λhHeld=>?_
    clear hK K;try simp only [zz]
    refine tp 8 37 511 28 PF.out ?_
    simp only [zz];refine tp 9 37 1023 27 PF.out ?_
    simp only [zz];refine tp 10 37 2047 26 PF.out ?_
    simp only [zz];refine tp 11 37 4095 25 PF.out ?_
    simp only [zz];refine tp 12 37 8191 24 PF.out ?_
    simp only [zz];refine tp 13 37 16383 23 PF.out ?_
    simp only [zz];refine tp 14 37 32767 22 PF.out ?_
    simp only [zz];refine tp 15 37 65535 21 PF.out ?_
    simp only [zz];refine tp 16 37 131071 20 PF.out ?_
    simp only [zz];refine zr 17 λK hK=>?_
    go_simp
    go_wp2_with (first|(go_at_call 34;refine (P1.out _ PZ.out).mono ?_;rintro e1 q2 ⟨rfl,hb5⟩;have Qt:=ab (aa PZ.out hb5);clear hb5))
    refine zk hK 37 262143 19 (Ro.out _ Qt.out) λhHeld=>?_
    clear hK K;try simp only [zz]
    refine tp 18 37 524287 18 PF.out ?_
    simp only [zz];refine tp 19 37 1048575 17 PF.out ?_
    simp only [zz];refine tp 20 37 2097151 16 PF.out ?_
    simp only [zz];refine tp 21 37 4194303 15 PF.out ?_
    simp only [zz];refine tp 22 37 8388607 14 PF.out ?_
    simp only [zz];refine tp 23 37 16777215 13 PF.out ?_
    simp only [zz];refine tp 24 37 33554431 12 PF.out ?_
    simp only [zz];refine tp 25 37 67108863 11 PF.out ?_
    simp only [zz];refine tp 26 37 134217727 10 PF.out ?_
    simp only [zz];refine tp 28 37 402653183 9 PF.out ?_
    simp only [zz];refine tp 29 37 939524095 8 PF.out ?_
    simp only [zz];refine tp 30 37 2013265919 7 PF.out ?_
    simp only [zz];refine tp 31 37 4160749567 6 PF.out ?_
    simp only [zz];refine tp 32 37 8455716863 5 PF.out ?_
    simp only [zz];refine tp 33 37 17045651455 4 PF.out ?_
    simp only [zz];refine zr 27 λK hK=>?_
    go_simp
    go_wp2_with (first|(go_at_call 36;refine (Vb.out _ Qt.out).mono ?_;rintro e1 q3 ⟨rfl,hb5⟩;have Sr:=ab (aa Qt.out hb5);clear hb5))
    refine zk hK 37 17179869183 3 (Ro.out _ Sr.out) λhHeld=>?_
    clear hK K;try simp only [zz]
    refine tp 34 37 34359738367 2 PF.out ?_
    simp only [zz];refine tp 35 37 68719476735 1 PF.out ?_
    simp only [zz];refine tp 36 37 137438953471 0 PF.out ?_
    simp only [zz];refine zn ?_ _
    go_wp2;exact⟨⟨m+1,rfl,by omega,ab (aa RV.out Sr.out)⟩,by simp [S.fe];omega⟩
   | false =>
    refine wp_region_held_drew (S:=(λU:World=>U.cell? ⟨bn,1,none⟩=some (.slice (some ⟨gt,0,none⟩) p'.T.length f2)/\U.cell? ⟨bw,1,none⟩=some (.slice a2 p.T.length e2)/\U.cell? ⟨gt,m*5,none⟩=some (.int .i64 tb)/\U.cell? ⟨gt,m*5+1,none⟩=some (.int .u64 (th:Int))/\U.cell? ⟨gt,m*5+2,none⟩=some (.int .u64 (tl:Int))/\U.cell? ⟨gt,m*5+3,none⟩=some (.int .i64 tr))) (by kernel_rfl) (Ro.out _ (Below.refl _ _).drew) (λhHeld=>?_)
    refine nm 37 0 37 ?_
    refine tp 0 37 1 36 PF.out ?_
    simp only [zz];refine tp 1 37 3 35 PF.out ?_
    simp only [zz];refine tp 2 37 7 34 PF.out ?_
    simp only [zz];refine tp 3 37 15 33 PF.out ?_
    simp only [zz];refine tp 4 37 31 32 PF.out ?_
    simp only [zz];refine tp 5 37 63 31 PF.out ?_
    simp only [zz];refine tp 6 37 127 30 PF.out ?_
    simp only [zz];refine zr 7 λK hK=>?_
    go_simp
    go_wp2_with (first|(go_at_call 35;refine (Qb.out _ (Below.refl _ _).drew).mono ?_;rintro e1 q1 ⟨rfl,hb5⟩;have PZ:=ab (aa (Below.refl _ _).drew hb5);clear hb5))
    refine zk hK 37 255 29 (Ro.out _ PZ.out) λhHeld=>?_
    clear hK K;try simp only [zz]
    refine tp 8 37 511 28 PF.out ?_
    simp only [zz];refine tp 9 37 1023 27 PF.out ?_
    simp only [zz];refine tp 10 37 2047 26 PF.out ?_
    simp only [zz];refine tp 11 37 4095 25 PF.out ?_
    simp only [zz];refine tp 12 37 8191 24 PF.out ?_
    simp only [zz];refine tp 13 37 16383 23 PF.out ?_
    simp only [zz];refine tp 14 37 32767 22 PF.out ?_
    simp only [zz];refine tp 15 37 65535 21 PF.out ?_
    simp only [zz];refine tp 16 37 131071 20 PF.out ?_
    simp only [zz];refine zr 17 λK hK=>?_
    go_simp
    go_wp2_with (first|(go_at_call 34;refine (P1.out _ PZ.out).mono ?_;rintro e1 q2 ⟨rfl,hb5⟩;have Qt:=ab (aa PZ.out hb5);clear hb5))
    refine zk hK 37 262143 19 (Ro.out _ Qt.out) λhHeld=>?_
    clear hK K;try simp only [zz]
    refine tp 18 37 524287 18 PF.out ?_
    simp only [zz];refine sk 19 37 1048575 17 PF.out ?_
    simp only [zz];refine sk 20 37 2097151 16 PF.out ?_
    simp only [zz];refine sk 21 37 4194303 15 PF.out ?_
    simp only [zz];refine sk 22 37 8388607 14 PF.out ?_
    simp only [zz];refine sk 23 37 16777215 13 PF.out ?_
    simp only [zz];refine sk 24 37 33554431 12 PF.out ?_
    simp only [zz];refine sk 25 37 67108863 11 PF.out ?_
    simp only [zz];refine sk 26 37 134217727 10 PF.out ?_
    simp only [zz];refine sk 27 37 268435455 9 PF.out ?_
    simp only [zz];refine sk 28 37 536870911 8 PF.out ?_
    simp only [zz];refine sk 29 37 1073741823 7 PF.out ?_
    simp only [zz];refine sk 30 37 2147483647 6 PF.out ?_
    simp only [zz];refine sk 31 37 4294967295 5 PF.out ?_
    simp only [zz];refine sk 32 37 8589934591 4 PF.out ?_
    simp only [zz];refine sk 33 37 17179869183 3 PF.out ?_
    simp only [zz];refine sk 34 37 34359738367 2 PF.out ?_
    simp only [zz];refine tp 35 37 68719476735 1 PF.out ?_
    simp only [zz];refine tp 36 37 137438953471 0 PF.out ?_
    simp only [zz];refine zn ?_ _
    go_wp2;exact⟨⟨m+1,rfl,by omega,ab (aa RV.out Qt.out)⟩,by simp [S.fe];omega⟩
  ·have hdm:decide ((m:Int)<(p'.T.length:Int))=false:=decide_eq_false (by omega)
   go_wp2;exact HK.out _ RV.out _ _ _ _ _ _ _ _ _ _ _ _ _ _ _ _ _ _ _ _ _ _ _ _ _ _ _ _ _ _ _ _ _ _ _ _ _ _ _ _ _ _ _ _ _ _
end
end
end Go.Proofs.YtffmodpgddecnaaGreatDoor.V
