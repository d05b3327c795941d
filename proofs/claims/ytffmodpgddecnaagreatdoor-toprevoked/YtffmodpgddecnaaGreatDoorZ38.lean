import Derived.Test.YtffmodpgddecnaaGreatDoorZ37
set_option linter.unusedVariables false
set_option linter.unusedSimpArgs false
set_option maxRecDepth 1000000
set_option maxHeartbeats 8000000
namespace Go.Proofs.YtffmodpgddecnaaGreatDoor.V
open Go.RowKit
open Go.Proofs.YtffmodpgddecnaaGreatDoor.H (aq Cp)
section
theorem Gu {u0 u1 u2 u3 u4 u5 u6 u7 u8 u9 K6 La Lc Ld Le Lf Lg Lh Lj Lk Ll Lm Ln Lo Lp Lq Ls Lt Lu Lv Lw Lx Ly Lz LA LB LC LD LF LG LH LI LJ LK LL LM LN LO LP LQ LR LS LU LV LW LX LY LZ L0 L3 L5 L6 L7 L8 L9 L_ Ma Mb Mc Md Me Mf Mg Mh Mi Mj Ml Mm Mn Mo Mq Mr Ms Mt Mu Mv Mw Mx My Mz MA MB MC MD ME MF MG MH MI MJ MK ML MM MN MO MP MQ MR MS MT MU MV MW MX MY MZ M0 M1 M4 M5 M6 M7 M8 M9 M_ Na Nb Nc Nf Ng Nh Ni Nj Nk Nl Nm Nn Np Nq Nr Ns Nt Nu Nv Nw Nx Ny Nz NA NB NC ND NF NG NH NI NJ NK NL NM NN NO NP NQ NR NS NT NU NV NW NX NY NZ N_ Oa Oc Od Oe Of Og Oh Oi Oj Ol Om On Oo Oq Ot Ou Ov Ox Oy Oz OA OB OC OD OE OG OH OI OJ OK OL OM ON OO OQ OS OT OU OV OW OX OY OZ O0 O1 O2 O3 O4 O5 O6 O7 O8 O9 O_ Pb Pc:Value}{Qx:Exit->Act->World->Prop}{p p':Ps}{cl:R.Cl}{dd gg:R.Sl}{r:dk}{ra:Option Addr}{rn rc:Nat}{Y:World}{b0 bw bc br bn:Nat}{a1:Option Addr}{e1:Nat}{Q1:List Ev}{a2:Option Addr}{e2:Nat}{a3:Option Addr}{e3:Nat}{Q3:List Ev}{b1:Option Addr}{f1:Nat}{R1:List Ev}{b2:Option Addr}{f2:Nat}{b3:Option Addr}{f3:Nat}{R3:List Ev}
  (hRb:Rb Y b0 p p' bw bc br bn cl dd gg r ra rn rc a1 e1 Q1 a2 e2 a3 e3 Q3 b1 f1 R1 b2 f2 b3 f3 R3) (hsm:p.Small) (hsm':p'.Small) (hP:∀c a d v w,Qx (.panic c) (Act.put a d v) w->Qx (.panic c) a w) (hop:(cl.op=5\/cl.op=6)->cl.given=false->r.code=0->sM p.T p.P cl.aB cl.obj (iD cl.op)=true)
  (hK:∀(w':World),Below Y.heap.size Y w'->∀(NB NC ND NF NG NH NI NJ NK NL NM NN NO NP NQ NR NS NT NU NV NW NX NY:Value),Qx .normal ⟨List.toArray (u0::u1::u2::u3::u4::u5::u6::u7::u8::u9::K6::.pointer (some ⟨bc,0,none⟩)::.pointer (some ⟨bw,0,none⟩)::.pointer (some ⟨br,0,none⟩)::.pointer (some ⟨bn,0,none⟩)::La::Lc::Ld::Le::Lf::Lg::Lh::Lj::Lk::Ll::Lm::Ln::Lo::Lp::Lq::Ls::Lt::Lu::Lv::Lw::Lx::Ly::Lz::LA::LB::LC::LD::LF::LG::LH::LI::LJ::LK::LL::LM::LN::LO::LP::LQ::LR::LS::LU::LV::LW::LX::LY::LZ::L0::L3::L5::L6::L7::L8::L9::L_::Ma::Mb::Mc::Md::Me::Mf::Mg::Mh::Mi::Mj::Ml::Mm::Mn::Mo::Mq::Mr::Ms::Mt::Mu::Mv::Mw::Mx::My::Mz::MA::MB::MC::MD::ME::MF::MG::MH::MI::MJ::MK::ML::MM::MN::MO::MP::MQ::MR::MS::MT::MU::MV::MW::MX::MY::MZ::M0::M1::M4::M5::M6::M7::M8::M9::M_::Na::Nb::Nc::Nf::Ng::Nh::Ni::Nj::Nk::Nl::Nm::Nn::Np::Nq::Nr::Ns::Nt::Nu::Nv::Nw::Nx::Ny::Nz::NA::NB::NC::ND::NF::NG::NH::NI::NJ::NK::NL::NM::NN::NO::NP::NQ::NR::NS::NT::NU::NV::NW::NX::NY::.bool false::N_::Oa::Oc::Od::Oe::Of::Og::Oh::Oi::Oj::Ol::Om::On::Oo::Oq::Ot::Ou::Ov::Ox::Oy::Oz::OA::OB::OC::OD::OE::OG::OH::OI::OJ::OK::OL::OM::ON::OO::OQ::OS::OT::OU::OV::OW::OX::OY::OZ::O0::O1::O2::O3::O4::O5::O6::O7::O8::O9::O_::Pb::Pc::[]),[]⟩ w') :
  Code.wp Tryz.prog (pL (pL (rs 6 (wI Tryz.f7.body)))) Qx ⟨List.toArray (u0::u1::u2::u3::u4::u5::u6::u7::u8::u9::K6::.pointer (some ⟨bc,0,none⟩)::.pointer (some ⟨bw,0,none⟩)::.pointer (some ⟨br,0,none⟩)::.pointer (some ⟨bn,0,none⟩)::La::Lc::Ld::Le::Lf::Lg::Lh::Lj::Lk::Ll::Lm::Ln::Lo::Lp::Lq::Ls::Lt::Lu::Lv::Lw::Lx::Ly::Lz::LA::LB::LC::LD::LF::LG::LH::LI::LJ::LK::LL::LM::LN::LO::LP::LQ::LR::LS::LU::LV::LW::LX::LY::LZ::L0::L3::L5::L6::L7::L8::L9::L_::Ma::Mb::Mc::Md::Me::Mf::Mg::Mh::Mi::Mj::Ml::Mm::Mn::Mo::Mq::Mr::Ms::Mt::Mu::Mv::Mw::Mx::My::Mz::MA::MB::MC::MD::ME::MF::MG::MH::MI::MJ::MK::ML::MM::MN::MO::MP::MQ::MR::MS::MT::MU::MV::MW::MX::MY::MZ::M0::M1::M4::M5::M6::M7::M8::M9::M_::Na::Nb::Nc::Nf::Ng::Nh::Ni::Nj::Nk::Nl::Nm::Nn::Np::Nq::Nr::Ns::Nt::Nu::Nv::Nw::Nx::Ny::Nz::NA::NB::NC::ND::NF::NG::NH::NI::NJ::NK::NL::NM::NN::NO::NP::NQ::NR::NS::NT::NU::NV::NW::NX::NY::NZ::N_::Oa::Oc::Od::Oe::Of::Og::Oh::Oi::Oj::Ol::Om::On::Oo::Oq::Ot::Ou::Ov::Ox::Oy::Oz::OA::OB::OC::OD::OE::OG::OH::OI::OJ::OK::OL::OM::ON::OO::OQ::OS::OT::OU::OV::OW::OX::OY::OZ::O0::O1::O2::O3::O4::O5::O6::O7::O8::O9::O_::Pb::Pc::[]),[]⟩ Y:=by
 conv=>arg 2;whnf
 have PR:=ab hRb
 have PG:=ab hsm
 have PJ:=ab hsm'
 have PF:=ab hP
 have HK:=ab hK
 have RE:=ab hop
 clear hRb hsm hsm' hP hK hop;have k0:=PR.out.call.cell 0 rfl
 have k6:=PR.out.call.cell 6 rfl
 obtain⟨cd,hcd⟩:∃cd,cd=r.code:=⟨_,rfl⟩
 have r0:Y.cell? ⟨br,0,none⟩=some (.int .i64 cd):=by rw [hcd];exact PR.out.rep.cell 0 rfl
 have TZ:=ab hcd
 clear hcd;by_cases o5:cl.op=5
 ·have e5:(cl.op==5)=true:=by simpa using o5
  have ho:cl.op=5\/cl.op=6:=.inl o5
  clear o5;cases hg:cl.given with
  | true =>
   rw [hg] at k6;go_wp2;exact HK.out _ (Below.refl _ _) _ _ _ _ _ _ _ _ _ _ _ _ _ _ _ _ _ _ _ _ _ _ _
  | false =>
   rw [hg] at k6;by_cases hz:cd=0
   ·have ez:(cd==0)=true:=by simpa using hz
    have hop:=RE.out ho hg (by rw [<-TZ.out];exact hz)
    have Ri:=ab (lO (e1:=e1) (e2:=e2) (e3:=e3) PR.out.tw.look PG.out cl dd gg)
    rw [hop] at Ri;have wz0:=PR.out.pf.cell 0 rfl
    have wz1:=PR.out.pf.cell 1 rfl
    have wz2:=PR.out.pf.cell 2 rfl
    have wz3:=PR.out.pf.cell 3 rfl
    have wz4:=PR.out.pf.cell 4 rfl
    have wz5:=PR.out.pf.cell 5 rfl
    have kz1:=PR.out.call.cell 1 rfl
    have kz2:=PR.out.call.cell 2 rfl
    have kz3:=PR.out.call.cell 3 rfl
    have kz4:=PR.out.call.cell 4 rfl
    have kz5:=PR.out.call.cell 5 rfl
    have kz7:=PR.out.call.cell 7 rfl
    have kz8:=PR.out.call.cell 8 rfl
    have kz9:=PR.out.call.cell 9 rfl
    have kz10:=PR.out.call.cell 10 rfl
    have kz11:=PR.out.call.cell 11 rfl
    have kz12:=PR.out.call.cell 12 rfl
    simp only [R.cC] at Ri;rw [hg] at Ri;clear hop hz;go_wp2_with (first|(go_at_call 37;refine Ri.out.mono ?_;rintro e u9 ⟨rfl,hb⟩;have Tz:=ab hb;clear hb))
    exact HK.out _ Tz.out _ _ _ _ _ _ _ _ _ _ _ _ _ _ _ _ _ _ _ _ _ _ _
   ·have ez:(cd==0)=false:=by simpa using hz
    clear hz;go_wp2;exact HK.out _ (Below.refl _ _) _ _ _ _ _ _ _ _ _ _ _ _ _ _ _ _ _ _ _ _ _ _ _
 ·have e5:(cl.op==5)=false:=by simpa using o5
  clear o5;by_cases o6:cl.op=6
  ·have e6:(cl.op==6)=true:=by simpa using o6
   have ho:cl.op=5\/cl.op=6:=.inr o6
   clear o6;cases hg:cl.given with
   | true =>
    rw [hg] at k6;go_wp2;exact HK.out _ (Below.refl _ _) _ _ _ _ _ _ _ _ _ _ _ _ _ _ _ _ _ _ _ _ _ _ _
   | false =>
    rw [hg] at k6;by_cases hz:cd=0
    ·have ez:(cd==0)=true:=by simpa using hz
     have hop:=RE.out ho hg (by rw [<-TZ.out];exact hz)
     have Ri:=ab (lO (e1:=e1) (e2:=e2) (e3:=e3) PR.out.tw.look PG.out cl dd gg)
     rw [hop] at Ri;have wz0:=PR.out.pf.cell 0 rfl
     have wz1:=PR.out.pf.cell 1 rfl
     have wz2:=PR.out.pf.cell 2 rfl
     have wz3:=PR.out.pf.cell 3 rfl
     have wz4:=PR.out.pf.cell 4 rfl
     have wz5:=PR.out.pf.cell 5 rfl
     have kz1:=PR.out.call.cell 1 rfl
     have kz2:=PR.out.call.cell 2 rfl
     have kz3:=PR.out.call.cell 3 rfl
     have kz4:=PR.out.call.cell 4 rfl
     have kz5:=PR.out.call.cell 5 rfl
     have kz7:=PR.out.call.cell 7 rfl
     have kz8:=PR.out.call.cell 8 rfl
     have kz9:=PR.out.call.cell 9 rfl
     have kz10:=PR.out.call.cell 10 rfl
     have kz11:=PR.out.call.cell 11 rfl
     have kz12:=PR.out.call.cell 12 rfl
     simp only [R.cC] at Ri;rw [hg] at Ri;clear hop hz;go_wp2_with (first|(go_at_call 37;refine Ri.out.mono ?_;rintro e u9 ⟨rfl,hb⟩;have Tz:=ab hb;clear hb))
     exact HK.out _ Tz.out _ _ _ _ _ _ _ _ _ _ _ _ _ _ _ _ _ _ _ _ _ _ _
    ·have ez:(cd==0)=false:=by simpa using hz
     clear hz;go_wp2;exact HK.out _ (Below.refl _ _) _ _ _ _ _ _ _ _ _ _ _ _ _ _ _ _ _ _ _ _ _ _ _
  ·have e6:(cl.op==6)=false:=by simpa using o6
   clear o6;go_wp2;exact HK.out _ (Below.refl _ _) _ _ _ _ _ _ _ _ _ _ _ _ _ _ _ _ _ _ _ _ _ _ _
theorem FH {u0 u1 u2 u3 u4 u5 u6 u7 u8 u9 K6 La Lc Ld Le Lf Lg Lh Lj Lk Ll Lm Ln Lo Lp Lq Ls Lt Lu Lv Lw Lx Ly Lz LA LB LC LD LF LG LH LI LJ LK LL LM LN LO LP LQ LR LS LU LV LW LX LY LZ L0 L3 L5 L6 L7 L8 L9 L_ Ma Mb Mc Md Me Mf Mg Mh Mi Mj Ml Mm Mn Mo Mq Mr Ms Mt Mu Mv Mw Mx My Mz MA MB MC MD ME MF MG MH MI MJ MK ML MM MN MO MP MQ MR MS MT MU MV MW MX MY MZ M0 M1 M4 M5 M6 M7 M8 M9 M_ Na Nb Nc Nf Ng Nh Ni Nj Nk Nl Nm Nn Np Nq Nr Ns Nt Nu Nv Nw Nx Ny Nz NA NB NC ND NF NG NH NI NJ NK NL NM NN NO NP NQ NR NS NT NU NV NW NX NY NZ N_ Oa Oc Od Oe Of Og Oh Oi Oj Ol Om On Oo Oq Ot Ou Ov Ox Oy Oz OA OB OC OD OE OG OH OI OJ OK OL OM ON OO OQ OS OT OU OV OW OX OY OZ O0 O1 O2 O3 O4 O5 O6 O7 O8 O9 O_ Pb Pc:Value}{Qx:Exit->Act->World->Prop}{p p':Ps}{cl:R.Cl}{dd gg:R.Sl}{r:dk}{ra:Option Addr}{rn rc:Nat}{Y:World}{b0 bw bc br bn:Nat}{a1:Option Addr}{e1:Nat}{Q1:List Ev}{a2:Option Addr}{e2:Nat}{a3:Option Addr}{e3:Nat}{Q3:List Ev}{b1:Option Addr}{f1:Nat}{R1:List Ev}{b2:Option Addr}{f2:Nat}{b3:Option Addr}{f3:Nat}{R3:List Ev}
  (hRb:Rb Y b0 p p' bw bc br bn cl dd gg r ra rn rc a1 e1 Q1 a2 e2 a3 e3 Q3 b1 f1 R1 b2 f2 b3 f3 R3) (hsm:p.Small) (hsm':p'.Small) (hP:∀c a d v w,Qx (.panic c) (Act.put a d v) w->Qx (.panic c) a w)
  (hK:∀(w':World),w'=Y->∀(N_ Oa Oc Od Oe Of Og Oh Oi Oj Ol Om On Oo Oq Ot Ou Ov Ox Oy Oz OA OB OC OD OE OG:Value),Qx .normal ⟨List.toArray (u0::u1::u2::u3::u4::u5::u6::u7::u8::u9::K6::.pointer (some ⟨bc,0,none⟩)::.pointer (some ⟨bw,0,none⟩)::.pointer (some ⟨br,0,none⟩)::.pointer (some ⟨bn,0,none⟩)::La::Lc::.bool (Av cl)::Le::Lf::Lg::Lh::Lj::Lk::Ll::Lm::Ln::Lo::Lp::Lq::Ls::Lt::Lu::Lv::Lw::Lx::Ly::Lz::LA::LB::LC::LD::LF::LG::LH::LI::LJ::LK::LL::LM::LN::LO::LP::LQ::LR::LS::LU::LV::LW::LX::LY::LZ::L0::L3::L5::L6::L7::L8::L9::L_::Ma::Mb::Mc::Md::Me::Mf::Mg::Mh::Mi::Mj::Ml::Mm::Mn::Mo::Mq::Mr::Ms::Mt::Mu::Mv::Mw::Mx::My::Mz::MA::MB::MC::MD::ME::MF::MG::MH::MI::MJ::MK::ML::MM::MN::MO::MP::MQ::MR::MS::MT::MU::MV::MW::MX::MY::MZ::M0::M1::M4::M5::M6::M7::M8::M9::M_::Na::Nb::Nc::Nf::Ng::Nh::Ni::Nj::Nk::Nl::Nm::Nn::Np::Nq::Nr::Ns::Nt::Nu::Nv::Nw::Nx::Ny::Nz::NA::NB::NC::ND::NF::NG::NH::NI::NJ::NK::NL::NM::NN::NO::NP::NQ::NR::NS::NT::NU::NV::NW::NX::NY::NZ::N_::Oa::Oc::Od::Oe::Of::Og::Oh::Oi::Oj::Ol::Om::On::Oo::Oq::Ot::Ou::Ov::Ox::Oy::Oz::OA::OB::OC::OD::OE::OG::OH::OI::OJ::OK::OL::OM::ON::OO::OQ::OS::OT::OU::OV::OW::OX::OY::OZ::O0::O1::O2::O3::O4::O5::O6::O7::O8::O9::O_::Pb::Pc::[]),[]⟩ w') :
  Code.wp Tryz.prog (pL (rs 7 (wI Tryz.f7.body))) Qx ⟨List.toArray (u0::u1::u2::u3::u4::u5::u6::u7::u8::u9::K6::.pointer (some ⟨bc,0,none⟩)::.pointer (some ⟨bw,0,none⟩)::.pointer (some ⟨br,0,none⟩)::.pointer (some ⟨bn,0,none⟩)::La::Lc::Ld::Le::Lf::Lg::Lh::Lj::Lk::Ll::Lm::Ln::Lo::Lp::Lq::Ls::Lt::Lu::Lv::Lw::Lx::Ly::Lz::LA::LB::LC::LD::LF::LG::LH::LI::LJ::LK::LL::LM::LN::LO::LP::LQ::LR::LS::LU::LV::LW::LX::LY::LZ::L0::L3::L5::L6::L7::L8::L9::L_::Ma::Mb::Mc::Md::Me::Mf::Mg::Mh::Mi::Mj::Ml::Mm::Mn::Mo::Mq::Mr::Ms::Mt::Mu::Mv::Mw::Mx::My::Mz::MA::MB::MC::MD::ME::MF::MG::MH::MI::MJ::MK::ML::MM::MN::MO::MP::MQ::MR::MS::MT::MU::MV::MW::MX::MY::MZ::M0::M1::M4::M5::M6::M7::M8::M9::M_::Na::Nb::Nc::Nf::Ng::Nh::Ni::Nj::Nk::Nl::Nm::Nn::Np::Nq::Nr::Ns::Nt::Nu::Nv::Nw::Nx::Ny::Nz::NA::NB::NC::ND::NF::NG::NH::NI::NJ::NK::NL::NM::NN::NO::NP::NQ::NR::NS::NT::NU::NV::NW::NX::NY::NZ::N_::Oa::Oc::Od::Oe::Of::Og::Oh::Oi::Oj::Ol::Om::On::Oo::Oq::Ot::Ou::Ov::Ox::Oy::Oz::OA::OB::OC::OD::OE::OG::OH::OI::OJ::OK::OL::OM::ON::OO::OQ::OS::OT::OU::OV::OW::OX::OY::OZ::O0::O1::O2::O3::O4::O5::O6::O7::O8::O9::O_::Pb::Pc::[]),[]⟩ Y:=by
 conv=>arg 2;whnf
 have PR:=ab hRb
 have PG:=ab hsm
 have PJ:=ab hsm'
 have PF:=ab hP
 have HK:=ab hK
 clear hRb hsm hsm' hP hK;have k0:=PR.out.call.cell 0 rfl
 have k6:=PR.out.call.cell 6 rfl
 obtain⟨gv,hgv⟩:∃gv,gv=Av cl:=⟨_,rfl⟩
 have S6:=ab hgv
 rw [<-hgv] at HK;clear hgv;by_cases o2:cl.op=2
 ·have hv:gv=true:=by rw [S6.out];unfold Av;rw [decide_eq_true o2];simp
  subst hv;rw [o2] at k0;clear o2;go_wp2;exact HK.out _ rfl _ _ _ _ _ _ _ _ _ _ _ _ _ _ _ _ _ _ _ _ _ _ _ _ _ _ _
 have e2:(cl.op==2)=false:=by simpa using o2
 by_cases o3:cl.op=3
 ·have hv:gv=true:=by rw [S6.out];unfold Av;rw [decide_eq_true o3];simp
  subst hv;rw [o3] at k0;clear o3;go_wp2;exact HK.out _ rfl _ _ _ _ _ _ _ _ _ _ _ _ _ _ _ _ _ _ _ _ _ _ _ _ _ _ _
 have e3:(cl.op==3)=false:=by simpa using o3
 by_cases o4:cl.op=4
 ·have hv:gv=true:=by rw [S6.out];unfold Av;rw [decide_eq_true o4];simp
  subst hv;rw [o4] at k0;clear o4;go_wp2;exact HK.out _ rfl _ _ _ _ _ _ _ _ _ _ _ _ _ _ _ _ _ _ _ _ _ _ _ _ _ _ _
 have e4:(cl.op==4)=false:=by simpa using o4
 by_cases o5:cl.op=5
 ·have hv:gv=cl.given:=by rw [S6.out];unfold Av;rw [o5];simp
  subst hv;rw [o5] at k0;clear o5 o2 o3 o4;go_wp2;exact HK.out _ rfl _ _ _ _ _ _ _ _ _ _ _ _ _ _ _ _ _ _ _ _ _ _ _ _ _ _ _
 have e5:(cl.op==5)=false:=by simpa using o5
 by_cases o6:cl.op=6
 ·have hv:gv=cl.given:=by rw [S6.out];unfold Av;rw [o6];simp
  subst hv;rw [o6] at k0;clear o6 o2 o3 o4 o5;go_wp2;exact HK.out _ rfl _ _ _ _ _ _ _ _ _ _ _ _ _ _ _ _ _ _ _ _ _ _ _ _ _ _ _
 have e6:(cl.op==6)=false:=by simpa using o6
 have hv:gv=false:=by rw [S6.out];unfold Av;rw [decide_eq_false o2,decide_eq_false o3,decide_eq_false o4,decide_eq_false o5,decide_eq_false o6];rfl
 subst hv;clear o2 o3 o4 o5 o6;go_wp2;exact HK.out _ rfl _ _ _ _ _ _ _ _ _ _ _ _ _ _ _ _ _ _ _ _ _ _ _ _ _ _ _
theorem GG {u0 u1 u2 u3 u4 u5 u6 u7 u8 K6 La Lc Le Lf Lg Lh Lj Lk Ll Lm Ln Lo Lp Lq Ls Lt Lu Lv Lw Lx Ly Lz LA LB LC LD LF LG LH LI LJ LK LL LM LN LO LP LQ LR LS LU LV LW LX LY LZ L0 L3 L5 L6 L7 L8 L9 L_ Ma Mb Mc Md Me Mf Mg Mh Mi Mj Ml Mm Mn Mo Mq Mr Ms Mt Mu Mv Mw Mx My Mz MA MB MC MD ME MF MG MH MI MJ MK ML MM MN MO MP MQ MR MS MT MU MV MW MX MY MZ M0 M1 M4 M5 M6 M7 M8 M9 M_ Na Nb Nc Nf Ng Nh Ni Nj Nk Nl Nm Nn Np Nq Nr Ns Nt Nu Nv Nw Nx Ny Nz NA NB NC ND NF NG NH NI NJ NK NL NM NN NO NP NQ NR NS NT NU NV NW NX NY NZ N_ Oa Oc Od Oe Of Og Oh Oi Oj Ol Om On Oo Oq Ot Ou Ov Ox Oy Oz OA OB OC OD OE OG OH OI OJ OK OL OM ON OO OQ OS OT OU OV OW OX OY OZ O0 O1 O2 O3 O4 O5 O6 O7 O8 O9 O_ Pb Pc:Value}{Qx:Exit->Act->World->Prop}{p p':Ps}{cl:R.Cl}{dd gg:R.Sl}{r:dk}{ra:Option Addr}{rn rc:Nat}{Y:World}{b0 bw bc br bn:Nat}{a1:Option Addr}{e1:Nat}{Q1:List Ev}{a2:Option Addr}{e2:Nat}{a3:Option Addr}{e3:Nat}{Q3:List Ev}{b1:Option Addr}{f1:Nat}{R1:List Ev}{b2:Option Addr}{f2:Nat}{b3:Option Addr}{f3:Nat}{R3:List Ev}
  (hRb:Rb Y b0 p p' bw bc br bn cl dd gg r ra rn rc a1 e1 Q1 a2 e2 a3 e3 Q3 b1 f1 R1 b2 f2 b3 f3 R3) (hsm:p.Small) (hsm':p'.Small) (hP:∀c a d v w,Qx (.panic c) (Act.put a d v) w->Qx (.panic c) a w) {gv:Bool} {Gj:List Cp} {gj:Option Addr} {gcj:Nat} (hFg:Fl Y gj (aF Gj)) (hGz:Gj.length<=1099511627776) (hgi:gv=true->jd p.T (bZ cl)=false->r.code=3\/r.code=2\/r.code=1)
  (hK:∀(w':World),Below Y.heap.size Y w'->∀(OH OI OJ OK OL OM ON OO OQ OS OT OU OV OW OX OY OZ O0 O1 O2 O3 O4 O5 O6 O7 O8 O9 O_ Pb:Value),Qx .normal ⟨List.toArray (u0::u1::u2::u3::u4::u5::u6::u7::u8::.slice gj Gj.length gcj::K6::.pointer (some ⟨bc,0,none⟩)::.pointer (some ⟨bw,0,none⟩)::.pointer (some ⟨br,0,none⟩)::.pointer (some ⟨bn,0,none⟩)::La::Lc::.bool gv::Le::Lf::Lg::Lh::Lj::Lk::Ll::Lm::Ln::Lo::Lp::Lq::Ls::Lt::Lu::Lv::Lw::Lx::Ly::Lz::LA::LB::LC::LD::LF::LG::LH::LI::LJ::LK::LL::LM::LN::LO::LP::LQ::LR::LS::LU::LV::LW::LX::LY::LZ::L0::L3::L5::L6::L7::L8::L9::L_::Ma::Mb::Mc::Md::Me::Mf::Mg::Mh::Mi::Mj::Ml::Mm::Mn::Mo::Mq::Mr::Ms::Mt::Mu::Mv::Mw::Mx::My::Mz::MA::MB::MC::MD::ME::MF::MG::MH::MI::MJ::MK::ML::MM::MN::MO::MP::MQ::MR::MS::MT::MU::MV::MW::MX::MY::MZ::M0::M1::M4::M5::M6::M7::M8::M9::M_::Na::Nb::Nc::Nf::Ng::Nh::Ni::Nj::Nk::Nl::Nm::Nn::Np::Nq::Nr::Ns::Nt::Nu::Nv::Nw::Nx::Ny::Nz::NA::NB::NC::ND::NF::NG::NH::NI::NJ::NK::NL::NM::NN::NO::NP::NQ::NR::NS::NT::NU::NV::NW::NX::NY::NZ::N_::Oa::Oc::Od::Oe::Of::Og::Oh::Oi::Oj::Ol::Om::On::Oo::Oq::Ot::Ou::Ov::Ox::Oy::Oz::OA::OB::OC::OD::OE::OG::OH::OI::OJ::OK::OL::OM::ON::OO::OQ::OS::OT::OU::OV::OW::OX::OY::OZ::O0::O1::O2::O3::O4::O5::O6::O7::O8::O9::O_::Pb::.bool false::[]),[]⟩ w') :
  Code.wp Tryz.prog (pL (rs 8 (wI Tryz.f7.body))) Qx ⟨List.toArray (u0::u1::u2::u3::u4::u5::u6::u7::u8::.slice gj Gj.length gcj::K6::.pointer (some ⟨bc,0,none⟩)::.pointer (some ⟨bw,0,none⟩)::.pointer (some ⟨br,0,none⟩)::.pointer (some ⟨bn,0,none⟩)::La::Lc::.bool gv::Le::Lf::Lg::Lh::Lj::Lk::Ll::Lm::Ln::Lo::Lp::Lq::Ls::Lt::Lu::Lv::Lw::Lx::Ly::Lz::LA::LB::LC::LD::LF::LG::LH::LI::LJ::LK::LL::LM::LN::LO::LP::LQ::LR::LS::LU::LV::LW::LX::LY::LZ::L0::L3::L5::L6::L7::L8::L9::L_::Ma::Mb::Mc::Md::Me::Mf::Mg::Mh::Mi::Mj::Ml::Mm::Mn::Mo::Mq::Mr::Ms::Mt::Mu::Mv::Mw::Mx::My::Mz::MA::MB::MC::MD::ME::MF::MG::MH::MI::MJ::MK::ML::MM::MN::MO::MP::MQ::MR::MS::MT::MU::MV::MW::MX::MY::MZ::M0::M1::M4::M5::M6::M7::M8::M9::M_::Na::Nb::Nc::Nf::Ng::Nh::Ni::Nj::Nk::Nl::Nm::Nn::Np::Nq::Nr::Ns::Nt::Nu::Nv::Nw::Nx::Ny::Nz::NA::NB::NC::ND::NF::NG::NH::NI::NJ::NK::NL::NM::NN::NO::NP::NQ::NR::NS::NT::NU::NV::NW::NX::NY::NZ::N_::Oa::Oc::Od::Oe::Of::Og::Oh::Oi::Oj::Ol::Om::On::Oo::Oq::Ot::Ou::Ov::Ox::Oy::Oz::OA::OB::OC::OD::OE::OG::OH::OI::OJ::OK::OL::OM::ON::OO::OQ::OS::OT::OU::OV::OW::OX::OY::OZ::O0::O1::O2::O3::O4::O5::O6::O7::O8::O9::O_::Pb::Pc::[]),[]⟩ Y:=by
 conv=>arg 2;whnf
 have PR:=ab hRb
 have PG:=ab hsm
 have PJ:=ab hsm'
 have PF:=ab hP
 have HK:=ab hK
 have SJ:=ab hFg
 have SV:=ab hGz
 have Um:=ab hgi
 clear hRb hsm hsm' hP hK hFg hGz hgi;cases gv with
 | false =>
  go_wp2;exact HK.out _ (Below.refl _ _) _ _ _ _ _ _ _ _ _ _ _ _ _ _ _ _ _ _ _ _ _ _ _ _ _ _ _ _ _
 | true =>
  have k3:=PR.out.call.cell 3 rfl
  have k4:=PR.out.call.cell 4 rfl
  have k5:=PR.out.call.cell 5 rfl
  have w1:=PR.out.pf.cell 1 rfl
  obtain⟨cd,hcd⟩:∃cd,cd=r.code:=⟨_,rfl⟩
  have r0:Y.cell? ⟨br,0,none⟩=some (.int .i64 cd):=by rw [hcd];exact PR.out.rep.cell 0 rfl
  have TZ:=ab hcd
  clear hcd;obtain⟨am,ham⟩:∃am,am=sL Gj (cl.obj,cl.hi,cl.lo):=⟨_,rfl⟩
  have Qb:=ab (rz (cap:=gcj) SJ.out SV.out (cl.obj,cl.hi,cl.lo))
  rw [<-ham] at Qb;clear ham;obtain⟨tw,htw⟩:∃tw,tw=jd p.T (cl.obj,cl.hi,cl.lo):=⟨_,rfl⟩
  have P1:Hid (∀U,Below Y.heap.size Y U->Calls Tryz.prog 34 #[.slice a2 p.T.length e2,.agg #[.int .i64 cl.obj,.int .u64 (cl.hi:Int),.int .u64 (cl.lo:Int)]] U λe' w'=>e'=.returned (.bool tw)/\Below U.heap.size U w'):=λU hU=>by
   rw [htw];exact bo (PR.out.tw.look.t.later hU) (Nat.le_trans PG.out.t (by decide)) (cl.obj,cl.hi,cl.lo)
  have Wy:=ab htw
  have Q4:Hid (∀U,Below Y.heap.size Y U->U.cell? ⟨bw,1,none⟩=some (.slice a2 p.T.length e2)/\U.cell? ⟨bc,3,none⟩=some (.int .i64 cl.obj)/\U.cell? ⟨bc,4,none⟩=some (.int .u64 (cl.hi:Int))/\U.cell? ⟨bc,5,none⟩=some (.int .u64 (cl.lo:Int))/\U.cell? ⟨br,0,none⟩=some (.int .i64 cd)):=λU hU=>⟨cell_later hU w1,cell_later hU k3,cell_later hU k4,cell_later hU k5,cell_later hU r0⟩
  clear htw;cases am with
  | false =>
   go_wp2_with (first|(go_at_call 35;refine Qb.out.mono ?_;rintro e q1 ⟨rfl,hb⟩;have PZ:=ab hb;clear hb))
   exact HK.out _ PZ.out _ _ _ _ _ _ _ _ _ _ _ _ _ _ _ _ _ _ _ _ _ _ _ _ _ _ _ _ _
  | true =>
   cases tw with
   | true =>
    go_wp2_with (first|(go_at_call 35;refine Qb.out.mono ?_;rintro e q1 ⟨rfl,hb⟩;have PZ:=ab hb;obtain⟨m1,m3,m4,m5,m0⟩:=Q4.out q1 hb;clear hb w1 k3 k4 k5 r0)|(go_at_call 34;refine (P1.out q1 PZ.out).mono ?_;rintro e q2 ⟨rfl,hb⟩;have Qt:=ab (aa PZ.out hb);obtain⟨l1,l3,l4,l5,l0⟩:=Q4.out q2 Qt.out;clear hb m1 m3 m4 m5 m0))
    exact HK.out _ Qt.out _ _ _ _ _ _ _ _ _ _ _ _ _ _ _ _ _ _ _ _ _ _ _ _ _ _ _ _ _
   | false =>
    have hcs:cd=3\/cd=2\/cd=1:=by rw [TZ.out];exact Um.out rfl Wy.out.symm
    rcases hcs with rfl|rfl|rfl
    ·go_wp2_with (first|(go_at_call 35;refine Qb.out.mono ?_;rintro e q1 ⟨rfl,hb⟩;have PZ:=ab hb;obtain⟨m1,m3,m4,m5,m0⟩:=Q4.out q1 hb;clear hb w1 k3 k4 k5 r0)|(go_at_call 34;refine (P1.out q1 PZ.out).mono ?_;rintro e q2 ⟨rfl,hb⟩;have Qt:=ab (aa PZ.out hb);obtain⟨l1,l3,l4,l5,l0⟩:=Q4.out q2 Qt.out;clear hb m1 m3 m4 m5 m0))
     exact HK.out _ Qt.out _ _ _ _ _ _ _ _ _ _ _ _ _ _ _ _ _ _ _ _ _ _ _ _ _ _ _ _ _
    ·go_wp2_with (first|(go_at_call 35;refine Qb.out.mono ?_;rintro e q1 ⟨rfl,hb⟩;have PZ:=ab hb;obtain⟨m1,m3,m4,m5,m0⟩:=Q4.out q1 hb;clear hb w1 k3 k4 k5 r0)|(go_at_call 34;refine (P1.out q1 PZ.out).mono ?_;rintro e q2 ⟨rfl,hb⟩;have Qt:=ab (aa PZ.out hb);obtain⟨l1,l3,l4,l5,l0⟩:=Q4.out q2 Qt.out;clear hb m1 m3 m4 m5 m0))
     exact HK.out _ Qt.out _ _ _ _ _ _ _ _ _ _ _ _ _ _ _ _ _ _ _ _ _ _ _ _ _ _ _ _ _
    ·go_wp2_with (first|(go_at_call 35;refine Qb.out.mono ?_;rintro e q1 ⟨rfl,hb⟩;have PZ:=ab hb;obtain⟨m1,m3,m4,m5,m0⟩:=Q4.out q1 hb;clear hb w1 k3 k4 k5 r0)|(go_at_call 34;refine (P1.out q1 PZ.out).mono ?_;rintro e q2 ⟨rfl,hb⟩;have Qt:=ab (aa PZ.out hb);obtain⟨l1,l3,l4,l5,l0⟩:=Q4.out q2 Qt.out;clear hb m1 m3 m4 m5 m0))
     exact HK.out _ Qt.out _ _ _ _ _ _ _ _ _ _ _ _ _ _ _ _ _ _ _ _ _ _ _ _ _ _ _ _ _
end
end Go.Proofs.YtffmodpgddecnaaGreatDoor.V
