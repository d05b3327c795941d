import Derived.Deep.CutBlock
import Derived.Test.YtffmodpgddecnaaGreatDoorZ38
set_option linter.unusedVariables false
set_option linter.unusedSimpArgs false
set_option maxRecDepth 1000000
set_option maxHeartbeats 8000000
namespace Go.Proofs.YtffmodpgddecnaaGreatDoor.V
open Go.RowKit
open Go.Proofs.YtffmodpgddecnaaGreatDoor.H (aq Cp)
section
theorem BC {u0 u1 u2 u3 u4 u5 u6 u7 u8 K6 La Lc Ld Le Lf Lg Lh Lj Lk Ll Lm Ln Lo Lp Lq Ls Lt Lu Lv Lw Lx Ly Lz LA LB LC LD LF LG LH LI LJ LK LL LM LN LO LP LQ LR LS LU LV LW LX LY LZ L0 L3 L5 L6 L7 L8 L9 L_ Ma Mb Mc Md Me Mf Mg Mh Mi Mj Ml Mm Mn Mo Mq Mr Ms Mt Mu Mv Mw Mx My Mz MA MB MC MD ME MF MG MH MI MJ MK ML MM MN MO MP MQ MR MS MT MU MV MW MX MY MZ M0 M1 M4 M5 M6 M7 M8 M9 M_ Na Nb Nc Nf Ng Nh Ni Nj Nk Nl Nm Nn Np Nq Nr Ns Nt Nu Nv Nw Nx Ny Nz NA NB NC ND NF NG NH NI NJ NK NL NM NN NO NP NQ NR NS NT NU NV NW NX NY NZ N_ Oa Oc Od Oe Of Og Oh Oi Oj Ol Om On Oo Oq Ot Ou Ov Ox Oy Oz OA OB OC OD OE OG OH OI OJ OK OL OM ON OO OQ OS OT OU OV OW OX OY OZ O0 O1 O2 O3 O4 O5 O6 O7 O8 O9 O_ Pb Pc:Value}{Qx:Exit->Act->World->Prop}{p p':Ps}{cl:R.Cl}{dd gg:R.Sl}{r:dk}{ra:Option Addr}{rn rc:Nat}{Y:World}{b0 bw bc br bn:Nat}{a1:Option Addr}{e1:Nat}{Q1:List Ev}{a2:Option Addr}{e2:Nat}{a3:Option Addr}{e3:Nat}{Q3:List Ev}{b1:Option Addr}{f1:Nat}{R1:List Ev}{b2:Option Addr}{f2:Nat}{b3:Option Addr}{f3:Nat}{R3:List Ev}
  (hRb:Rb Y b0 p p' bw bc br bn cl dd gg r ra rn rc a1 e1 Q1 a2 e2 a3 e3 Q3 b1 f1 R1 b2 f2 b3 f3 R3) (hsm:p.Small) (hsm':p'.Small) (hP:∀c a d v w,Qx (.panic c) (Act.put a d v) w->Qx (.panic c) a w) {G:List Cp} {ga:Option Addr} {gc base:Nat} (hG0:∀k,aJ ga k->k<b0) (hOw:Ow Y base 37 3 ga G.length gc (aF G)) (hbase:base<=Y.heap.size) (hGb:G.length<=104857600) (hgo:∀t∈p.T,jd p'.T t.1=false->(cl.op=4/\r.code=0)\/((cl.op != 4)=true/\cl.op=2/\r.code=0))
  (hnow:∀t∈p'.T,sL (G++wx p.T p'.T) t.1=false/\(jd p.T t.1=true->r_ p.T t.1=t.2.1)) (hop:(cl.op=5\/cl.op=6)->cl.given=false->r.code=0->sM p.T p.P cl.aB cl.obj (iD cl.op)=true) (hgi:Av cl=true->jd p.T (bZ cl)=false->r.code=3\/r.code=2\/r.code=1)
  (hK:∀(gj:Option Addr) (gcj:Nat) (Gj:List Cp) (w':World),Gj=G++wx p.T p'.T/\Ow w' base 37 3 gj Gj.length gcj (aF Gj)/\(∀k,aJ gj k->aJ ga k\/Y.heap.size<=k)/\ah (aJ ga) Y w'->∀(v6 La Lc Ld Ma Mb Mc Md Me Mf Mg Mh Mi Mj Ml Mm Mn Mo Mq Mr Ms Mt Mu Mv Mw Mx My Mz MA MB MC MD ME MF MG MH MI MJ MK ML MM MN MO MP MQ MR MS MT MU MV MW MX MY MZ M0 M1 M4 M5 M6 M7 M8 M9 M_ Na Nb Nc Nf Ng Nh Ni Nj Nk Nl Nm Nn Np Nq Nr Ns Nt Nu Nv Nw Nx Ny Nz NA NB NC ND NF NG NH NI NJ NK NL NM NN NO NP NQ NR NS NT NU NV NW NX NY NZ N_ Oa Oc Od Oe Of Og Oh Oi Oj Ol Om On Oo Oq Ot Ou Ov Ox Oy Oz OA OB OC OD OE OG OH OI OJ OK OL OM ON OO OQ OS OT OU OV OW OX OY OZ O0 O1 O2 O3 O4 O5 O6 O7 O8 O9 O_ Pb Pc:Value),Qx .normal ⟨List.toArray (u0::u1::u2::u3::u4::u5::v6::u7::u8::.slice gj Gj.length gcj::K6::.pointer (some ⟨bc,0,none⟩)::.pointer (some ⟨bw,0,none⟩)::.pointer (some ⟨br,0,none⟩)::.pointer (some ⟨bn,0,none⟩)::La::Lc::Ld::Le::Lf::Lg::Lh::Lj::Lk::Ll::Lm::Ln::Lo::Lp::Lq::Ls::Lt::Lu::Lv::Lw::Lx::Ly::Lz::LA::LB::LC::LD::LF::LG::LH::LI::LJ::LK::LL::LM::LN::LO::LP::LQ::LR::LS::LU::LV::LW::LX::LY::LZ::L0::L3::L5::L6::L7::L8::L9::L_::Ma::Mb::Mc::Md::Me::Mf::Mg::Mh::Mi::Mj::Ml::Mm::Mn::Mo::Mq::Mr::Ms::Mt::Mu::Mv::Mw::Mx::My::Mz::MA::MB::MC::MD::ME::MF::MG::MH::MI::MJ::MK::ML::MM::MN::MO::MP::MQ::MR::MS::MT::MU::MV::MW::MX::MY::MZ::M0::M1::M4::M5::M6::M7::M8::M9::M_::Na::Nb::Nc::Nf::Ng::Nh::Ni::Nj::Nk::Nl::Nm::Nn::Np::Nq::Nr::Ns::Nt::Nu::Nv::Nw::Nx::Ny::Nz::NA::NB::NC::ND::NF::NG::NH::NI::NJ::NK::NL::NM::NN::NO::NP::NQ::NR::NS::NT::NU::NV::NW::NX::NY::NZ::N_::Oa::Oc::Od::Oe::Of::Og::Oh::Oi::Oj::Ol::Om::On::Oo::Oq::Ot::Ou::Ov::Ox::Oy::Oz::OA::OB::OC::OD::OE::OG::OH::OI::OJ::OK::OL::OM::ON::OO::OQ::OS::OT::OU::OV::OW::OX::OY::OZ::O0::O1::O2::O3::O4::O5::O6::O7::O8::O9::O_::Pb::Pc::[]),[]⟩ w') :
  Code.wp Tryz.prog (rs 4 (wI Tryz.f7.body)) Qx ⟨List.toArray (u0::u1::u2::u3::u4::u5::u6::u7::u8::.slice ga G.length gc::K6::.pointer (some ⟨bc,0,none⟩)::.pointer (some ⟨bw,0,none⟩)::.pointer (some ⟨br,0,none⟩)::.pointer (some ⟨bn,0,none⟩)::La::Lc::Ld::Le::Lf::Lg::Lh::Lj::Lk::Ll::Lm::Ln::Lo::Lp::Lq::Ls::Lt::Lu::Lv::Lw::Lx::Ly::Lz::LA::LB::LC::LD::LF::LG::LH::LI::LJ::LK::LL::LM::LN::LO::LP::LQ::LR::LS::LU::LV::LW::LX::LY::LZ::L0::L3::L5::L6::L7::L8::L9::L_::Ma::Mb::Mc::Md::Me::Mf::Mg::Mh::Mi::Mj::Ml::Mm::Mn::Mo::Mq::Mr::Ms::Mt::Mu::Mv::Mw::Mx::My::Mz::MA::MB::MC::MD::ME::MF::MG::MH::MI::MJ::MK::ML::MM::MN::MO::MP::MQ::MR::MS::MT::MU::MV::MW::MX::MY::MZ::M0::M1::M4::M5::M6::M7::M8::M9::M_::Na::Nb::Nc::Nf::Ng::Nh::Ni::Nj::Nk::Nl::Nm::Nn::Np::Nq::Nr::Ns::Nt::Nu::Nv::Nw::Nx::Ny::Nz::NA::NB::NC::ND::NF::NG::NH::NI::NJ::NK::NL::NM::NN::NO::NP::NQ::NR::NS::NT::NU::NV::NW::NX::NY::NZ::N_::Oa::Oc::Od::Oe::Of::Og::Oh::Oi::Oj::Ol::Om::On::Oo::Oq::Ot::Ou::Ov::Ox::Oy::Oz::OA::OB::OC::OD::OE::OG::OH::OI::OJ::OK::OL::OM::ON::OO::OQ::OS::OT::OU::OV::OW::OX::OY::OZ::O0::O1::O2::O3::O4::O5::O6::O7::O8::O9::O_::Pb::Pc::[]),[]⟩ Y:=by
 conv=>arg 2;whnf
 have PR:=ab hRb
 have PG:=ab hsm
 have PJ:=ab hsm'
 have PF:=ab hP
 have HK:=ab hK
 have Rw:=ab hG0
 have Rl:=ab hOw
 have UD:=ab hbase
 have SF:=ab hGb
 have R_:=ab hgo
 have RU:=ab hnow
 have RE:=ab hop
 have Um:=ab hgi
 clear hRb hsm hsm' hP hK hG0 hOw hbase hGb hgo hnow hop hgi;go_upto_block 2 with fail
 go_cut [9,15,6] from 70 to 108 (λv _ _ U=>∃(gj:Option Addr) (gcj:Nat) (Gj:List Cp),v=.slice gj Gj.length gcj/\Hid (Gj=G++wx p.T p'.T)/\Hid (Ow U base 37 3 gj Gj.length gcj (aF Gj))/\Hid (∀k,aJ gj k->aJ ga k\/Y.heap.size<=k)/\Hid (ah (aJ ga) Y U))
 case first =>
  refine D2 PR.out PG.out PJ.out (λc a d v w h=>by first|exact PF.out _ _ _ _ _ h|(cases d<;>exact h)) Rw.out Rl.out UD.out SF.out R_.out ?_
  rintro gj gcj Gj w9 ⟨h1,h2,h3,h4⟩
  intros;go_wp2;go_meet;exact⟨gj,gcj,Gj,rfl,ab h1,ab h2,ab h3,ab h4⟩
 case rest =>
 rename World=>v1
 obtain⟨gj,gcj,Gj,rfl,Rc,SA,P3,Ra⟩:=hcut
 have Rt:=ab (PR.out.but Ra.out Rw.out)
 have SJ:=ab (Fl.of SA.out (jV Gj))
 have SV:Hid (Gj.length<=1099511627776):=by
  have h1:=sW p.T p'.T
  have h2:=SF.out
  have h3:=PG.out.t
  unfold Hid;rw [Rc.out,List.length_append];omega
 rw [<-Rc.out] at RU;go_upto_block 4 with fail
 go_cut [16,6] from 109 to 152 (λ_ _ U=>Hid (Below v1.heap.size v1 U))
 case first =>
  refine DS Rt.out PG.out PJ.out (λc a d v w h=>by first|exact PF.out _ _ _ _ _ h|(cases d<;>exact h)) SJ.out SV.out RU.out ?_
  rintro w9 h9
  intros;go_wp2;go_meet;exact ab h9
 case rest =>
 rename World=>v2
 have RV:=hcut
 clear hcut;have Re:=ab (Rt.out.but (ah.of (S:=λ_=>False) RV.out) (λk h=>h.elim))
 go_upto_region 32 with fail
 go_cut [176] from 153 to 175 (λs U=>s=.bool false/\Hid (Below v2.heap.size v2 U))
 case first =>
  refine Gu Re.out PG.out PJ.out (λc a d v w h=>by first|exact PF.out _ _ _ _ _ h|(cases d<;>exact h)) RE.out ?_
  rintro w9 h9
  intros;go_wp2;go_meet;exact⟨rfl,ab h9⟩
 case rest =>
 rename World=>v3
 obtain⟨rfl,PE⟩:=hcut
 have Sg:=ab (aa RV.out PE.out)
 have R5:=ab (Rt.out.but (ah.of (S:=λ_=>False) Sg.out) (λk h=>h.elim))
 clear Re RV PE;go_upto_region 34 with fail
 go_cut [17] from 177 to 203 (λs U=>s=.bool (Av cl)/\v3=U)
 case first =>
  refine FH R5.out PG.out PJ.out (λc a d v w h=>by first|exact PF.out _ _ _ _ _ h|(cases d<;>exact h)) ?_
  rintro w9 rfl
  intros;go_wp2;go_meet;exact⟨rfl,rfl⟩
 case rest =>
 obtain⟨rfl,rfl⟩:=hcut
 go_upto_region 35 with fail
 go_cut [233] from 204 to 232 (λs U=>s=.bool false/\Hid (Below v3.heap.size v3 U))
 case first =>
  refine GG R5.out PG.out PJ.out (λc a d v w h=>by first|exact PF.out _ _ _ _ _ h|(cases d<;>exact h)) (SJ.out.later Sg.out) SV.out Um.out ?_
  rintro w9 h9
  intros;go_wp2;go_meet;exact⟨rfl,ab h9⟩
 case rest =>
 rename World=>v4
 obtain⟨rfl,PI⟩:=hcut
 have TN:=ab (aa Sg.out PI.out)
 go_wp2;exact HK.out gj gcj Gj _ ⟨Rc.out,SA.out.later TN.out,P3.out,Ra.out.call TN.out⟩ _ _ _ _ _ _ _ _ _ _ _ _ _ _ _ _ _ _ _ _ _ _ _ _ _ _ _ _ _ _ _ _ _ _ _ _ _ _ _ _ _ _ _ _ _ _ _ _ _ _ _ _ _ _ _ _ _ _ _ _ _ _ _ _ _ _ _ _ _ _ _ _ _ _ _ _ _ _ _ _ _ _ _ _ _ _ _ _ _ _ _ _ _ _ _ _ _ _ _ _ _ _ _ _ _ _ _ _ _ _ _ _ _ _ _ _ _ _ _ _ _ _ _ _ _ _ _ _ _ _ _ _ _ _ _ _ _ _ _ _ _ _ _ _ _ _ _ _ _ _ _ _ _ _ _ _ _ _ _ _ _ _ _ _ _ _ _ _
end
end Go.Proofs.YtffmodpgddecnaaGreatDoor.V
