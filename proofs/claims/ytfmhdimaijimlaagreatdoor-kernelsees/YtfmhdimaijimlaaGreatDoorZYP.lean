import Derived.Test.YtfmhdimaijimlaaGreatDoorZYS
import Derived.Deep.CutBlock
set_option linter.all false
set_option maxRecDepth 1000000
set_option maxHeartbeats 8000000
open Go.Proofs.Tryz
variable {bM kC KC KD KE KG KH KI KJ KK KM KN KO KP KQ KR KS KT KU KV KW KX KY KZ K0 K1 K2 K3 K4 K5 K6 K7 K8 K9 K_ La Lc Ld Le Lf Lg Lh Lj Lk Ll Lm Ln Lo Lp Lq Ls Lt Lu Lv Lw Lx Ly Lz LA LB LC LD LF LG LH LI LJ LK LL LM LN LO LP LQ LR LS LU LV LW LX LY LZ L3 L5 L6 L7 L8 L9 L_ Ma Mb Mc Md Me Mf Mg Mh Mi Mj Ml Mm Mn Mo Mq Mr Ms Mt Mu Mv Mw Mx My Mz MA MB MC MD ME MF MG MH MI MJ MK ML MM MN MO MP MQ MR MS MT MU MV MW MX MY MZ M0 M1 M4 M5 M6 M7 M8 M9 M_ Na Nb Nc Nf Ng Nh Ni Nj Nk Nl Nm Nn No Np Nq Nr Ns Nt Nu Nv Nw Nx Ny Nz NA NB NC ND NF NG NH NI NJ NK NL NM NN NO NP NQ NR NS NT NU NV NW NX NY NZ N5 N7 N8 N_ Oa Oc Od Oe Of Og Oh Oi Oj Ol Om On Oo Oq Ot Ou Ov Ox Oy Oz OA OB OC OD OE OF OG OH OI OJ OK OL OM ON OO OQ OS OT OU OV OW OX OY OZ O0 O1 O2 O3 O4 O5 O6 O7 O8 O9 O_ Pb Pc Pd Pf Pg Ph:Go.Value}
variable {w w' w1 w2:Go.World}{n m k i j b g base kn:Nat}{a:Option Go.Addr}
namespace Go.Proofs.YtfmhdimaijimlaaGreatDoor.V
open Go.RowKit
open Go.Proofs.YtfmhdimaijimlaaGreatDoor.H (ak Cp)
theorem zQ {Qx:Exit->Act->World->Prop}{p:Ps}{cl:R.Cl}{dd gg:R.Sl}{r:cU}{ra:Option Addr}{rn rc:Nat}{y4:World}{bw bc br:Nat}{a1:Option Addr}{e1:Nat}{Q1:List Ev}{a2:Option Addr}{e2:Nat}{a3:Option Addr}{e3:Nat}{Q3:List Ev}
  (hSB:∀U,Below y4.heap.size y4 U->Sb U p bw bc br cl dd gg r ra rn rc a1 e1 Q1 a2 e2 a3 e3 Q3) (hsm:p.Small)
  (hK:∀(a:Option Addr) (cap:Nat) (w':World),((a=none/\(aN cl.obj p.O).length=0/\∀v∈p.O,v.1≠cl.obj)\/∃e∈Q1,e.id=cl.obj/\e.a=a/\e.len=(aN cl.obj p.O).length/\e.cap=cap/\e.vs=S.aM (aN cl.obj p.O))/\Below y4.heap.size y4 w'->∀(KW NA NB NC ND NF NG NH NI NJ NK NL NM NN NO NP NQ NR NS NT NU NV NW NX:Value),Qx .normal ⟨List.toArray (bM::kC::KC::KD::KE::KG::KH::KI::KJ::KK::.pointer (some ⟨bc,0,none⟩)::.pointer (some ⟨bw,0,none⟩)::KN::KO::KP::KQ::KR::KS::KT::KU::.slice a (aN cl.obj p.O).length cap::KW::KX::KY::KZ::K0::K1::K2::K3::K4::K5::K6::K7::K8::K9::K_::La::Lc::Ld::Le::Lf::Lg::Lh::Lj::Lk::Ll::Lm::Ln::Lo::Lp::Lq::Ls::Lt::Lu::Lv::Lw::Lx::Ly::Lz::LA::LB::LC::LD::LF::LG::LH::LI::LJ::LK::LL::LM::LN::LO::LP::LQ::LR::LS::LU::LV::LW::LX::LY::LZ::L3::L5::L6::L7::L8::L9::L_::Ma::Mb::Mc::Md::Me::Mf::Mg::Mh::Mi::Mj::Ml::Mm::Mn::Mo::Mq::Mr::Ms::Mt::Mu::Mv::Mw::Mx::My::Mz::MA::MB::MC::MD::ME::MF::MG::MH::MI::MJ::MK::ML::MM::MN::MO::MP::MQ::MR::MS::MT::MU::MV::MW::MX::MY::MZ::M0::M1::M4::M5::M6::M7::M8::M9::M_::Na::Nb::Nc::Nf::Ng::Nh::Ni::Nj::Nk::Nl::Nm::Nn::No::Np::Nq::Nr::Ns::Nt::Nu::Nv::Nw::Nx::Ny::Nz::NA::NB::NC::ND::NF::NG::NH::NI::NJ::NK::NL::NM::NN::NO::NP::NQ::NR::NS::NT::NU::NV::NW::NX::NY::NZ::N5::N7::N8::N_::Oa::Oc::Od::Oe::Of::Og::Oh::Oi::Oj::Ol::Om::On::Oo::Oq::Ot::Ou::Ov::Ox::Oy::Oz::OA::OB::OC::OD::OE::OF::OG::OH::OI::OJ::OK::OL::OM::ON::OO::OQ::OS::OT::OU::OV::OW::OX::OY::OZ::O0::O1::O2::O3::O4::O5::O6::O7::O8::O9::O_::Pb::Pc::Pd::Pf::Pg::Ph::[]),[]⟩ w') :
  Code.wp prog (pR (pL (rs 14 (kF Tryz.f4.body)))) Qx ⟨List.toArray (bM::kC::KC::KD::KE::KG::KH::KI::KJ::KK::.pointer (some ⟨bc,0,none⟩)::.pointer (some ⟨bw,0,none⟩)::KN::KO::KP::KQ::KR::KS::KT::KU::.slice none 0 0::.int .i64 0::KX::KY::KZ::K0::K1::K2::K3::K4::K5::K6::K7::K8::K9::K_::La::Lc::Ld::Le::Lf::Lg::Lh::Lj::Lk::Ll::Lm::Ln::Lo::Lp::Lq::Ls::Lt::Lu::Lv::Lw::Lx::Ly::Lz::LA::LB::LC::LD::LF::LG::LH::LI::LJ::LK::LL::LM::LN::LO::LP::LQ::LR::LS::LU::LV::LW::LX::LY::LZ::L3::L5::L6::L7::L8::L9::L_::Ma::Mb::Mc::Md::Me::Mf::Mg::Mh::Mi::Mj::Ml::Mm::Mn::Mo::Mq::Mr::Ms::Mt::Mu::Mv::Mw::Mx::My::Mz::MA::MB::MC::MD::ME::MF::MG::MH::MI::MJ::MK::ML::MM::MN::MO::MP::MQ::MR::MS::MT::MU::MV::MW::MX::MY::MZ::M0::M1::M4::M5::M6::M7::M8::M9::M_::Na::Nb::Nc::Nf::Ng::Nh::Ni::Nj::Nk::Nl::Nm::Nn::No::Np::Nq::Nr::Ns::Nt::Nu::Nv::Nw::Nx::Ny::Nz::NA::NB::NC::ND::NF::NG::NH::NI::NJ::NK::NL::NM::NN::NO::NP::NQ::NR::NS::NT::NU::NV::NW::NX::NY::NZ::N5::N7::N8::N_::Oa::Oc::Od::Oe::Of::Og::Oh::Oi::Oj::Ol::Om::On::Oo::Oq::Ot::Ou::Ov::Ox::Oy::Oz::OA::OB::OC::OD::OE::OF::OG::OH::OI::OJ::OK::OL::OM::ON::OO::OQ::OS::OT::OU::OV::OW::OX::OY::OZ::O0::O1::O2::O3::O4::O5::O6::O7::O8::O9::O_::Pb::Pc::Pd::Pf::Pg::Ph::[]),[]⟩ y4:=by
 conv=>arg 2;whnf
 have HSB:=aa hSB
 have HSm:=aa hsm
 have HK:=aa hK
 clear hSB hsm hK
 go_upto_region 37 with fail
 go_loopw [20,21] (J9 y4 p.O cl.obj Q1) (λ_ v _=>p.O.length - S.ef v)
 case atStart=>exact⟨0,0,none,0,rfl,rfl,Nat.zero_le _,aa rfl,aa (.inl ⟨rfl,rfl,λv h=>by simp at h⟩),aa (Below.refl _ _)⟩
 case round =>
  obtain⟨j,k,a,cap,rfl,rfl,hj,HKl,HF,HB⟩:=hrel
  have hpl:=HSm.o.o
  have g:=HSB.o wr HB.o
  have w0:=g.Jn.cell 0 rfl
  by_cases hlt:j<p.O.length
  ·have hd:decide ((j:Int)<(p.O.length:Int))=true:=dT (by omega)
   obtain⟨q,hq⟩:∃q,p.O[j]?=some q:=⟨_,gE hlt⟩
   have x3:=g.call.cell 3 rfl
   obtain⟨ev,hev,hem,hid0,hvs,hln⟩:=jP g.lw.ok hq
   have HEm:=aa hem
   have hlen0:0<(sn Q1).length:=by rw [dv];have:=(gS.1 hev).1;omega
   obtain⟨gq,rfl,hqc⟩:=g.lw.o hlen0
   have q0:wr.cell? ⟨gq,j*2,none⟩=some (.int .i64 ev.id):=hqc _ _ (dp Q1 j ev hev 0 (by omega))
   have q1:wr.cell? ⟨gq,j*2+1,none⟩=some (.slice ev.a ev.len ev.cap):=hqc _ _ (dp Q1 j ev hev 1 (by omega))
   have HNx:Hid (aN cl.obj (p.O.take (j+1))=if q.1=cl.obj then q.2 else aN cl.obj (p.O.take j)):=aa (ns hq)
   have HTk:Hid (∀v∈p.O.take (j+1),v∈p.O.take j\/v=q):=λv hv=>by
    rw [List.take_succ_eq_append_getElem hlt,(gS.1 hq).2] at hv
    simpa using hv
   obtain⟨ei,evv,el,ea,ec⟩:=ev
   simp only [sk] at hid0 hvs hln
   subst hid0 hvs hln
   obtain⟨qn,qk⟩:=q
   simp only at q0 q1 HNx
   clear hev hem hqc hlen0 hq g hj
   by_cases he:qn=cl.obj
   ·have heb:(qn==cl.obj)=true:=by simpa using he
    have HN2:Hid (aN cl.obj (p.O.take (j+1))=qk):=by unfold Hid;rw [HNx.o,if_pos he]
    have HE:=aa he
    clear he HNx
    go_upto_region 39 with fail
    go_quiet (fail)
    go_wp2
    exact⟨⟨j+1,qk.length,ea,ec,rfl,rfl,by omega,by unfold Hid;rw [HN2.o],by unfold Hid;rw [HN2.o];exact .inr ⟨_,HEm.o,HE.o,rfl,rfl,rfl,rfl⟩,aa (below_drewN HB.o _)⟩,by simp [S.ef];omega⟩
   ·have heb:(qn==cl.obj)=false:=by simpa using he
    have HN2:Hid (aN cl.obj (p.O.take (j+1))=aN cl.obj (p.O.take j)):=by unfold Hid;rw [HNx.o,if_neg he]
    have HNe:=aa he
    clear he HNx
    go_upto_region 39 with fail
    go_quiet (fail)
    go_wp2
    exact⟨⟨j+1,k,a,cap,rfl,rfl,by omega,by unfold Hid;rw [HN2.o];exact HKl.o,by
     unfold Hid
     rw [HN2.o]
     rcases HF.o with ⟨h1,h2,h3⟩|h
     ·exact .inl ⟨h1,h2,λv hv=>by
       rcases HTk.o v hv with h9|h9
       ·exact h3 v h9
       ·rw [h9];exact HNe.o⟩
     ·exact .inr h,aa (below_drewN HB.o _)⟩,by simp [S.ef];omega⟩
  ·have hjj:j=p.O.length:=by omega
   have hd:decide ((j:Int)<(p.O.length:Int))=false:=dF (by omega)
   have hkk:k=(aN cl.obj p.O).length:=by rw [HKl.o,hjj,List.take_length]
   subst hkk
   have HF2:Hid ((a=none/\(aN cl.obj p.O).length=0/\∀v∈p.O,v.1≠cl.obj)\/∃e∈Q1,e.id=cl.obj/\e.a=a/\e.len=(aN cl.obj p.O).length/\e.cap=cap/\e.vs=S.aM (aN cl.obj p.O)):=by have h:=HF.o;unfold Hid;rw [hjj,List.take_length] at h;exact h
   clear hjj hj HF HKl g
   go_wp2
   exact HK.o a cap _ ⟨HF2.o,HB.o⟩ ..
theorem xO {K:List Cp}(h:Fl w a (az K)){c:Cp}(hc:K[j]?=some c):∃g,a=some ⟨g,0,none⟩/\w.cell? ⟨g,j*3,none⟩=some (.int .i64 c.1)/\w.cell? ⟨g,j*3+1,none⟩=some (.int .u64 (c.2.1:Int))/\w.cell? ⟨g,j*3+2,none⟩=some (.int .u64 (c.2.2:Int)):=by
 have hj:=(gS.1 hc).1
 obtain⟨g,rfl,hr⟩:=h (by rw [g6];omega)
 exact⟨g,rfl,hr _ _ (dt K j c hc 0 (by omega)),hr _ _ (dt K j c hc 1 (by omega)),hr _ _ (dt K j c hc 2 (by omega))⟩
def J_ (y4:World)(o need:Int)(T:List Tok)(K:List Cp)(KS KT:Value)(U:World):Prop:=∃(i:Nat) (rb:Bool),KS=.bool rb/\KT=.int .i64 (i:Int)/\i<=K.length/\Hid (rb=dL o need T (K.take i))/\Hid (Below y4.heap.size y4 U)
def Kx (y4:World)(o need:Int)(T:List Tok)(c:Cp)(r0:Bool)(KS KU:Value)(U:World):Prop:=∃(j:Nat) (rb:Bool),KS=.bool rb/\KU=.int .i64 (j:Int)/\j<=T.length/\Hid (rb=(r0||(T.take j).any (kv o need c)))/\Hid (Below y4.heap.size y4 U)
theorem zR {Qx:Exit->Act->World->Prop}{p:Ps}{cl:R.Cl}{dd gg:R.Sl}{r:cU}{ra:Option Addr}{rn rc:Nat}{y4:World}{bw bc br:Nat}{a1:Option Addr}{e1:Nat}{Q1:List Ev}{a2:Option Addr}{e2:Nat}{a3:Option Addr}{e3:Nat}{Q3:List Ev}
  (hSB:∀U,Below y4.heap.size y4 U->Sb U p bw bc br cl dd gg r ra rn rc a1 e1 Q1 a2 e2 a3 e3 Q3) (hsm:p.Small) {a:Option Addr} {cap:Nat} {K:List Cp} {need:Int} (hKl:K.length<=1048576) (hF:Fl y4 a (az K))
  (hK:∀(w':World),Below y4.heap.size y4 w'->∀(KT KU MA MB MC MD ME MF MG MH MI MJ MK ML MM MN MO MP MQ MR MS MT MU MV MW MX MY MZ M0 M1 M4 M5 M6 M7 M8 M9 M_ Na Nb Nc Nf Ng Nh Ni Nj Nk Nl Nm Nn No Np:Value),Qx .normal ⟨List.toArray (bM::kC::KC::KD::KE::KG::KH::KI::KJ::KK::.pointer (some ⟨bc,0,none⟩)::.pointer (some ⟨bw,0,none⟩)::KN::.slice a K.length cap::KP::.int .i64 need::KR::.bool (dL cl.obj need p.T K)::KT::KU::KV::KW::KX::KY::KZ::K0::K1::K2::K3::K4::K5::K6::K7::K8::K9::K_::La::Lc::Ld::Le::Lf::Lg::Lh::Lj::Lk::Ll::Lm::Ln::Lo::Lp::Lq::Ls::Lt::Lu::Lv::Lw::Lx::Ly::Lz::LA::LB::LC::LD::LF::LG::LH::LI::LJ::LK::LL::LM::LN::LO::LP::LQ::LR::LS::LU::LV::LW::LX::LY::LZ::L3::L5::L6::L7::L8::L9::L_::Ma::Mb::Mc::Md::Me::Mf::Mg::Mh::Mi::Mj::Ml::Mm::Mn::Mo::Mq::Mr::Ms::Mt::Mu::Mv::Mw::Mx::My::Mz::MA::MB::MC::MD::ME::MF::MG::MH::MI::MJ::MK::ML::MM::MN::MO::MP::MQ::MR::MS::MT::MU::MV::MW::MX::MY::MZ::M0::M1::M4::M5::M6::M7::M8::M9::M_::Na::Nb::Nc::Nf::Ng::Nh::Ni::Nj::Nk::Nl::Nm::Nn::No::Np::Nq::Nr::Ns::Nt::Nu::Nv::Nw::Nx::Ny::Nz::NA::NB::NC::ND::NF::NG::NH::NI::NJ::NK::NL::NM::NN::NO::NP::NQ::NR::NS::NT::NU::NV::NW::NX::NY::NZ::N5::N7::N8::N_::Oa::Oc::Od::Oe::Of::Og::Oh::Oi::Oj::Ol::Om::On::Oo::Oq::Ot::Ou::Ov::Ox::Oy::Oz::OA::OB::OC::OD::OE::OF::OG::OH::OI::OJ::OK::OL::OM::ON::OO::OQ::OS::OT::OU::OV::OW::OX::OY::OZ::O0::O1::O2::O3::O4::O5::O6::O7::O8::O9::O_::Pb::Pc::Pd::Pf::Pg::Ph::[]),[]⟩ w') :
  Code.wp prog (pR (pL (rs 11 (kF Tryz.f4.body)))) Qx ⟨List.toArray (bM::kC::KC::KD::KE::KG::KH::KI::KJ::KK::.pointer (some ⟨bc,0,none⟩)::.pointer (some ⟨bw,0,none⟩)::KN::.slice a K.length cap::KP::.int .i64 need::KR::.bool false::.int .i64 0::KU::KV::KW::KX::KY::KZ::K0::K1::K2::K3::K4::K5::K6::K7::K8::K9::K_::La::Lc::Ld::Le::Lf::Lg::Lh::Lj::Lk::Ll::Lm::Ln::Lo::Lp::Lq::Ls::Lt::Lu::Lv::Lw::Lx::Ly::Lz::LA::LB::LC::LD::LF::LG::LH::LI::LJ::LK::LL::LM::LN::LO::LP::LQ::LR::LS::LU::LV::LW::LX::LY::LZ::L3::L5::L6::L7::L8::L9::L_::Ma::Mb::Mc::Md::Me::Mf::Mg::Mh::Mi::Mj::Ml::Mm::Mn::Mo::Mq::Mr::Ms::Mt::Mu::Mv::Mw::Mx::My::Mz::MA::MB::MC::MD::ME::MF::MG::MH::MI::MJ::MK::ML::MM::MN::MO::MP::MQ::MR::MS::MT::MU::MV::MW::MX::MY::MZ::M0::M1::M4::M5::M6::M7::M8::M9::M_::Na::Nb::Nc::Nf::Ng::Nh::Ni::Nj::Nk::Nl::Nm::Nn::No::Np::Nq::Nr::Ns::Nt::Nu::Nv::Nw::Nx::Ny::Nz::NA::NB::NC::ND::NF::NG::NH::NI::NJ::NK::NL::NM::NN::NO::NP::NQ::NR::NS::NT::NU::NV::NW::NX::NY::NZ::N5::N7::N8::N_::Oa::Oc::Od::Oe::Of::Og::Oh::Oi::Oj::Ol::Om::On::Oo::Oq::Ot::Ou::Ov::Ox::Oy::Oz::OA::OB::OC::OD::OE::OF::OG::OH::OI::OJ::OK::OL::OM::ON::OO::OQ::OS::OT::OU::OV::OW::OX::OY::OZ::O0::O1::O2::O3::O4::O5::O6::O7::O8::O9::O_::Pb::Pc::Pd::Pf::Pg::Ph::[]),[]⟩ y4:=by
 conv=>arg 2;whnf
 have HSB:=aa hSB
 have HSm:=aa hsm
 have HK:=aa hK
 clear hSB hsm hK
 have HKl:=aa hKl
 have HF:=aa hF
 clear hKl hF
 go_upto_region 26 with fail
 go_loopw [17,18] (J_ y4 cl.obj need p.T K) (λ_ v _=>K.length - S.ef v)
 case atStart=>exact⟨0,false,rfl,rfl,Nat.zero_le _,aa rfl,aa (Below.refl _ _)⟩
 case round =>
  obtain⟨i,r0,rfl,rfl,hi,HR0,HB0⟩:=hrel
  have hkl:=HKl.o
  by_cases hlt:i<K.length
  ·have hd:decide ((i:Int)<(K.length:Int))=true:=dT (by omega)
   obtain⟨c,hc⟩:∃c,K[i]?=some c:=⟨_,gE hlt⟩
   have HN0:Hid (dL cl.obj need p.T (K.take (i+1))=(r0||p.T.any (kv cl.obj need c))):=by unfold Hid dL;rw [any_succ hc,HR0.o];rfl
   have HC:=aa hc
   clear hc HR0 hi
   go_upto_region 29 with fail
   go_loopw [17,19] (Kx y4 cl.obj need p.T c r0) (λ_ v _=>p.T.length - S.ef v)
   case atStart=>exact⟨0,r0,rfl,rfl,Nat.zero_le _,by unfold Hid;simp,HB0⟩
   case round =>
    obtain⟨j,rb,rfl,rfl,hj,HRb,HB⟩:=hrel
    have htl:=HSm.o.t
    have g:=HSB.o wr HB.o
    have w1:=g.Jn.cell 1 rfl
    by_cases hjt:j<p.T.length
    ·have hd2:decide ((j:Int)<(p.T.length:Int))=true:=dT (by omega)
     obtain⟨t,ht⟩:∃t,p.T[j]?=some t:=⟨_,gE hjt⟩
     have x3:=g.call.cell 3 rfl
     obtain⟨gt,rfl,c0,c1,c2,c3,c4⟩:=Hl g.lw.t ht
     obtain⟨gk,hgk,k0,k1,k2⟩:=xO (HF.o.later HB.o) HC.o
     subst hgk
     have HNx:Hid ((r0||(p.T.take (j+1)).any (kv cl.obj need c))=(rb||kv cl.obj need c t)):=by unfold Hid;rw [any_succ ht,HRb.o,Bool.or_assoc]
     clear g ht hj HRb
     obtain⟨⟨tb,th,tl⟩,tr,tq⟩:=t
     obtain⟨cb,ch,cw⟩:=c
     simp only at c0 c1 c2 c3 c4 k0 k1 k2
     cases rb with
     | true =>
      go_upto_region 31 with fail
      go_quiet (fail)
      go_wp2
      exact⟨⟨j+1,true,rfl,rfl,by omega,by unfold Hid;rw [HNx.o];rfl,aa (below_drewN HB.o _)⟩,by simp [S.ef];omega⟩
     | false =>
      by_cases ho:cb=cl.obj
      ·have hob:(cb==cl.obj)=true:=by simpa using ho
       obtain⟨e,he⟩:∃e,e=decide (((tb,th,tl):Cp)=(cb,ch,cw)):=⟨_,rfl⟩
       have heq:∀U:World,(binOp .eql 38 (.agg #[.int .i64 tb,.int .u64 (th:Int),.int .u64 (tl:Int)]) (.agg #[.int .i64 cb,.int .u64 (ch:Int),.int .u64 (cw:Int)])).run prog U=.ok (.bool e) U:=λU=>by rw [he];exact Go.Proofs.YtfmhdimaijimlaaGreatDoor.K.EU (tb,th,tl) (cb,ch,cw) U
       obtain⟨e2,he2⟩:∃e2,e2=(bits .and .i64 tr need != 0):=⟨_,rfl⟩
       have HF1:Hid (kv cl.obj need (cb,ch,cw) ((tb,th,tl),tr,tq)=(e&&e2)):=by unfold Hid kv;rw [he,he2];simp [ho]
       have he3:=he2.symm
       clear he he2 ho
       cases e with
       | false =>
        go_upto_region 31 with fail
        go_quiet (fail)
        go_wp2
        exact⟨⟨j+1,false,rfl,rfl,by omega,by unfold Hid;rw [HNx.o,HF1.o];rfl,aa (below_drewN HB.o _)⟩,by simp [S.ef];omega⟩
       | true =>
        go_upto_region 31 with fail
        go_quiet (fail)
        go_wp2
        exact⟨⟨j+1,e2,rfl,rfl,by omega,by unfold Hid;rw [HNx.o,HF1.o];rfl,aa (below_drewN HB.o _)⟩,by simp [S.ef];omega⟩
      ·have hob:(cb==cl.obj)=false:=by simpa using ho
       have HF1:Hid (kv cl.obj need (cb,ch,cw) ((tb,th,tl),tr,tq)=false):=by unfold Hid kv;simp [ho]
       clear ho
       go_upto_region 31 with fail
       go_quiet (fail)
       go_wp2
       exact⟨⟨j+1,false,rfl,rfl,by omega,by unfold Hid;rw [HNx.o,HF1.o];rfl,aa (below_drewN HB.o _)⟩,by simp [S.ef];omega⟩
    ·have hjj:j=p.T.length:=by omega
     have hd2:decide ((j:Int)<(p.T.length:Int))=false:=dF (by omega)
     have HR2:Hid (rb=dL cl.obj need p.T (K.take (i+1))):=by unfold Hid;rw [HRb.o,hjj,List.take_length,HN0.o]
     clear hjj hj HRb g
     go_wp2
     exact⟨⟨i+1,rb,rfl,rfl,by omega,HR2,HB⟩,by simp [S.ef];omega⟩
  ·have hii:i=K.length:=by omega
   have hd:decide ((i:Int)<(K.length:Int))=false:=dF (by omega)
   have hr:r0=dL cl.obj need p.T K:=by rw [HR0.o,hii,List.take_length]
   subst hr
   clear hii hi HR0
   go_wp2
   exact HK.o _ HB0.o ..
theorem AQ (l:List Nat)(off:Nat):S.bR l [] off=l:=by simp [S.bR]
theorem xW {l D:List Nat}{off:Nat}(h:off+D.length<=l.length){x:Nat}(hx:D[j]?=some x):(S.bR l (D.take j) off).set (off+j) x=S.bR l (D.take (j+1)) off:=by
 obtain⟨hj,e⟩:=gS.1 hx
 have h1:(D.take j).length=j:=by simp;omega
 have h2:(D.take (j+1)).length=j+1:=by simp;omega
 have h3:(l.take off).length=off:=by simp;omega
 unfold S.bR
 rw [h1,h2,List.take_succ_eq_append_getElem hj,e,List.set_append_right _ _ (by simp;omega)]
 have h4:off+j - (l.take off++D.take j).length=0:=by simp;omega
 rw [h4,List.drop_eq_getElem_cons (show off+j<l.length by omega)]
 simp [Nat.add_assoc]
theorem BC {c:Nat}{L:List Nat}{v:Nat}(h:Own w base 5 (some ⟨g,0,none⟩) n c (S.aM L)):Own (w.setCell ⟨g,j,none⟩ (.int .u8 (v:Int))) base 5 (some ⟨g,0,none⟩) n c (S.aM (L.set j v)):=by
 have e:(S.aM L).set j (.int .u8 (v:Int))=S.aM (L.set j v):=by simp [S.aM,List.map_set]
 exact⟨by rw [<-e];exact (h.row.stored j _).1,λu hu=>by obtain⟨x,_,rfl⟩:=List.mem_map.1 hu;rfl⟩
def KB (y4:World)(base:Nat)(a:Option Addr)(l D:List Nat)(cap off:Nat)(v:Value)(U:World):Prop:=∃j:Nat,v=.int .i64 (j:Int)/\j<=D.length/\Hid (Own U base 5 a l.length cap (S.aM (S.bR l (D.take j) off)))/\Hid (ae (aD a) y4 U)
theorem sP {Qx:Exit->Act->World->Prop}{cl:R.Cl}{dd gg:R.Sl}{y4:World}{bc:Nat}{cap:Nat}{l:List Nat}{off:Nat}(hO:Own y4 base 5 a l.length cap (S.aM l))(ho:cl.off=(off:Int))(hle:off+cl.data.length<=l.length)(hll:l.length<=1048576)
  (hSB:∀U,ae (aD a) y4 U->R.Bx U bc (R.cC cl dd gg)/\R.Row U dd.a dd.n dd.c cl.data) (hP:∀c a d v w,Qx (.panic c) (Act.put a d v) w->Qx (.panic c) a w)
  (hK:∀(w':World),Own w' base 5 a l.length cap (S.aM (S.bR l cl.data off))/\ae (aD a) y4 w'->∀(KX OW OX OY OZ O0 O1 O2 O3 O4 O5 O6 O7 O8 O9 O_ Pb:Value),Qx .normal ⟨List.toArray (bM::kC::KC::KD::KE::KG::KH::KI::KJ::KK::.pointer (some ⟨bc,0,none⟩)::KM::KN::KO::KP::KQ::.int .i64 (cl.data.length:Int)::KS::KT::KU::.slice a l.length cap::KW::KX::KY::KZ::K0::K1::K2::K3::K4::K5::K6::K7::K8::K9::K_::La::Lc::Ld::Le::Lf::Lg::Lh::Lj::Lk::Ll::Lm::Ln::Lo::Lp::Lq::Ls::Lt::Lu::Lv::Lw::Lx::Ly::Lz::LA::LB::LC::LD::LF::LG::LH::LI::LJ::LK::LL::LM::LN::LO::LP::LQ::LR::LS::LU::LV::LW::LX::LY::LZ::L3::L5::L6::L7::L8::L9::L_::Ma::Mb::Mc::Md::Me::Mf::Mg::Mh::Mi::Mj::Ml::Mm::Mn::Mo::Mq::Mr::Ms::Mt::Mu::Mv::Mw::Mx::My::Mz::MA::MB::MC::MD::ME::MF::MG::MH::MI::MJ::MK::ML::MM::MN::MO::MP::MQ::MR::MS::MT::MU::MV::MW::MX::MY::MZ::M0::M1::M4::M5::M6::M7::M8::M9::M_::Na::Nb::Nc::Nf::Ng::Nh::Ni::Nj::Nk::Nl::Nm::Nn::No::Np::Nq::Nr::Ns::Nt::Nu::Nv::Nw::Nx::Ny::Nz::NA::NB::NC::ND::NF::NG::NH::NI::NJ::NK::NL::NM::NN::NO::NP::NQ::NR::NS::NT::NU::NV::NW::NX::NY::NZ::N5::N7::N8::N_::Oa::Oc::Od::Oe::Of::Og::Oh::Oi::Oj::Ol::Om::On::Oo::Oq::Ot::Ou::Ov::Ox::Oy::Oz::OA::OB::OC::OD::OE::OF::OG::OH::OI::OJ::OK::OL::OM::ON::OO::OQ::OS::OT::OU::OV::OW::OX::OY::OZ::O0::O1::O2::O3::O4::O5::O6::O7::O8::O9::O_::Pb::Pc::Pd::Pf::Pg::Ph::[]),[]⟩ w') :
  Code.wp prog (pR (pL (pI (pR (rs 18 (kF Tryz.f4.body)))))) Qx ⟨List.toArray (bM::kC::KC::KD::KE::KG::KH::KI::KJ::KK::.pointer (some ⟨bc,0,none⟩)::KM::KN::KO::KP::KQ::.int .i64 (cl.data.length:Int)::KS::KT::KU::.slice a l.length cap::KW::.int .i64 0::KY::KZ::K0::K1::K2::K3::K4::K5::K6::K7::K8::K9::K_::La::Lc::Ld::Le::Lf::Lg::Lh::Lj::Lk::Ll::Lm::Ln::Lo::Lp::Lq::Ls::Lt::Lu::Lv::Lw::Lx::Ly::Lz::LA::LB::LC::LD::LF::LG::LH::LI::LJ::LK::LL::LM::LN::LO::LP::LQ::LR::LS::LU::LV::LW::LX::LY::LZ::L3::L5::L6::L7::L8::L9::L_::Ma::Mb::Mc::Md::Me::Mf::Mg::Mh::Mi::Mj::Ml::Mm::Mn::Mo::Mq::Mr::Ms::Mt::Mu::Mv::Mw::Mx::My::Mz::MA::MB::MC::MD::ME::MF::MG::MH::MI::MJ::MK::ML::MM::MN::MO::MP::MQ::MR::MS::MT::MU::MV::MW::MX::MY::MZ::M0::M1::M4::M5::M6::M7::M8::M9::M_::Na::Nb::Nc::Nf::Ng::Nh::Ni::Nj::Nk::Nl::Nm::Nn::No::Np::Nq::Nr::Ns::Nt::Nu::Nv::Nw::Nx::Ny::Nz::NA::NB::NC::ND::NF::NG::NH::NI::NJ::NK::NL::NM::NN::NO::NP::NQ::NR::NS::NT::NU::NV::NW::NX::NY::NZ::N5::N7::N8::N_::Oa::Oc::Od::Oe::Of::Og::Oh::Oi::Oj::Ol::Om::On::Oo::Oq::Ot::Ou::Ov::Ox::Oy::Oz::OA::OB::OC::OD::OE::OF::OG::OH::OI::OJ::OK::OL::OM::ON::OO::OQ::OS::OT::OU::OV::OW::OX::OY::OZ::O0::O1::O2::O3::O4::O5::O6::O7::O8::O9::O_::Pb::Pc::Pd::Pf::Pg::Ph::[]),[]⟩ y4:=by
 conv=>arg 2;whnf
 have HO:=aa hO
 have HOf:=aa ho
 have HLe:=aa hle
 have HLl:=aa hll
 have HSB:=aa hSB
 have HPx:=aa hP
 have HK:=aa hK
 clear hO ho hle hll hSB hP hK
 go_upto_region 50 with fail
 go_loopw [22] (KB y4 base a l cl.data cap off) (λv _=>cl.data.length - S.ef v)
 case atStart=>exact⟨0,rfl,Nat.zero_le _,by unfold Hid;rw [List.take_zero,AQ];exact HO.o,aa (ae.refl _ _)⟩
 case round =>
  obtain⟨j,rfl,hj,HO2,HB⟩:=hrel
  have hle:=HLe.o
  have hll:=HLl.o
  by_cases hlt:j<cl.data.length
  ·have hd:decide ((j:Int)<(cl.data.length:Int))=true:=dT (by omega)
   obtain⟨x,hx⟩:∃x,cl.data[j]?=some x:=⟨_,gE hlt⟩
   obtain⟨hbx,hrw⟩:=HSB.o wr HB.o
   have x8:=hbx.cell 8 rfl
   have x10:=hbx.cell 10 rfl
   rw [HOf.o] at x8
   have hdl:=hrw.len
   obtain⟨db,dof,hda,hdc⟩:=hrw.plain (by omega)
   have d0:wr.cell? ⟨db,dof+j,none⟩=some (.int .u8 (x:Int)):=by
    have h9:=hdc j hlt
    rw [(gS.1 hx).2] at h9
    exact h9
   have hdv:dd.v=.slice (some ⟨db,dof,none⟩) cl.data.length dd.c:=by unfold R.Sl.v;rw [hda,hdl]
   rw [hdv] at x10
   obtain⟨g,rfl⟩:=HO2.o.form (by omega)
   have hlm:(S.bR l (cl.data.take j) off).length=l.length:=S.dG (by simp;omega)
   obtain⟨y,hy⟩:∃y,(S.bR l (cl.data.take j) off)[off+j]?=some y:=⟨_,gE (by omega)⟩
   obtain⟨_,e1,hL1⟩:=HO2.o.oR rfl (j:=off+j) (u:=.int .u8 (y:Int)) (by simp [S.aM,hy])
   cases e1
   have y1:=hL1.1
   have z1:=hL1.2
   have HO3:Hid (Own (wr.setCell ⟨g,off+j,none⟩ (.int .u8 (x:Int))) base 5 (some ⟨g,0,none⟩) l.length cap (S.aM (S.bR l (cl.data.take (j+1)) off))):=by unfold Hid;rw [<-xW hle hx];exact BC HO2.o
   have HB3:=aa (HB.o.setCell (p:=⟨g,off+j,none⟩) ⟨_,rfl,rfl⟩ (.int .u8 (x:Int)))
   have hol:off+j<l.length:=by omega
   clear hx hbx hrw hda hdc hdv hdl hlm hy hL1 HO2 HB hj
   go_upto_region 52 with fail
   go_region
   go_wp2
   exact⟨⟨j+1,rfl,by omega,aa (HO3.o.later ((Below.refl _ _).drew)),aa (HB3.o.call ((Below.refl _ _).drew))⟩,by simp [S.ef];omega⟩
  ·have hjj:j=cl.data.length:=by omega
   have hd:decide ((j:Int)<(cl.data.length:Int))=false:=dF (by omega)
   have HO3:Hid (Own wr base 5 a l.length cap (S.aM (S.bR l cl.data off))):=by have h:=HO2.o;unfold Hid;rw [hjj,List.take_length] at h;exact h
   clear hjj hj HO2
   go_wp2
   exact HK.o _ ⟨HO3.o,HB.o⟩ ..
def kx (cl:R.Cl)(p:Ps):List Cp:=if cl.given then [bG cl] else aN cl.au p.P
theorem k_ {Qx:Exit->Act->World->Prop}{p:Ps}{cl:R.Cl}{dd gg:R.Sl}{r:cU}{ra:Option Addr}{rn rc:Nat}{y4:World}{bw bc br:Nat}{a1:Option Addr}{e1:Nat}{Q1:List Ev}{a2:Option Addr}{e2:Nat}{a3:Option Addr}{e3:Nat}{Q3:List Ev}
  (hSB:∀U,Below y4.heap.size y4 U->Sb U p bw bc br cl dd gg r ra rn rc a1 e1 Q1 a2 e2 a3 e3 Q3) (hsm:p.Small) {H:Hd} (hop:cl.op=5\/cl.op=6) (hdn:dd.n=cl.data.length)
  (hN:∀(a:Option Addr) (cap:Nat) (need nn:Int) (w':World),Fl w' a (az (kx cl p))/\Below y4.heap.size y4 w'/\((cl.op=5/\need=1/\nn=cl.n)\/(cl.op=6/\need=2/\nn=(cl.data.length:Int)))->∀(KP LW LX LY LZ L3 L5 L6 L7 L8 L9 L_ Ma Mb Mc Md Me Mf Mg Mh Mi Mj Ml Mm Mn Mo Mq Mr Ms Mt Mu Mv Mw Mx My Mz:Value),Code.wp prog (rs 10 (kF Tryz.f4.body)) Qx ⟨List.toArray (bM::kC::KC::KD::KE::KG::KH::.pointer (some ⟨H.kb,0,none⟩)::KJ::KK::.pointer (some ⟨bc,0,none⟩)::.pointer (some ⟨bw,0,none⟩)::.pointer (some ⟨br,0,none⟩)::.slice a (kx cl p).length cap::KP::.int .i64 need::.int .i64 nn::KS::KT::KU::KV::KW::KX::KY::KZ::K0::K1::K2::K3::K4::K5::K6::K7::K8::K9::K_::La::Lc::Ld::Le::Lf::Lg::Lh::Lj::Lk::Ll::Lm::Ln::Lo::Lp::Lq::Ls::Lt::Lu::Lv::Lw::Lx::Ly::Lz::LA::LB::LC::LD::LF::LG::LH::LI::LJ::LK::LL::LM::LN::LO::LP::LQ::LR::LS::LU::LV::LW::LX::LY::LZ::L3::L5::L6::L7::L8::L9::L_::Ma::Mb::Mc::Md::Me::Mf::Mg::Mh::Mi::Mj::Ml::Mm::Mn::Mo::Mq::Mr::Ms::Mt::Mu::Mv::Mw::Mx::My::Mz::MA::MB::MC::MD::ME::MF::MG::MH::MI::MJ::MK::ML::MM::MN::MO::MP::MQ::MR::MS::MT::MU::MV::MW::MX::MY::MZ::M0::M1::M4::M5::M6::M7::M8::M9::M_::Na::Nb::Nc::Nf::Ng::Nh::Ni::Nj::Nk::Nl::Nm::Nn::No::Np::Nq::Nr::Ns::Nt::Nu::Nv::Nw::Nx::Ny::Nz::NA::NB::NC::ND::NF::NG::NH::NI::NJ::NK::NL::NM::NN::NO::NP::NQ::NR::NS::NT::NU::NV::NW::NX::NY::NZ::N5::N7::N8::N_::Oa::Oc::Od::Oe::Of::Og::Oh::Oi::Oj::Ol::Om::On::Oo::Oq::Ot::Ou::Ov::Ox::Oy::Oz::OA::OB::OC::OD::OE::OF::OG::OH::OI::OJ::OK::OL::OM::ON::OO::OQ::OS::OT::OU::OV::OW::OX::OY::OZ::O0::O1::O2::O3::O4::O5::O6::O7::O8::O9::O_::Pb::Pc::Pd::Pf::Pg::Ph::[]),[]⟩ w') :
  Code.wp prog (rs 4 (kF Tryz.f4.body)) Qx ⟨List.toArray (bM::kC::KC::KD::KE::KG::KH::.pointer (some ⟨H.kb,0,none⟩)::KJ::KK::.pointer (some ⟨bc,0,none⟩)::.pointer (some ⟨bw,0,none⟩)::.pointer (some ⟨br,0,none⟩)::KO::KP::KQ::KR::KS::KT::KU::KV::KW::KX::KY::KZ::K0::K1::K2::K3::K4::K5::K6::K7::K8::K9::K_::La::Lc::Ld::Le::Lf::Lg::Lh::Lj::Lk::Ll::Lm::Ln::Lo::Lp::Lq::Ls::Lt::Lu::Lv::Lw::Lx::Ly::Lz::LA::LB::LC::LD::LF::LG::LH::LI::LJ::LK::LL::LM::LN::LO::LP::LQ::LR::LS::LU::LV::LW::LX::LY::LZ::L3::L5::L6::L7::L8::L9::L_::Ma::Mb::Mc::Md::Me::Mf::Mg::Mh::Mi::Mj::Ml::Mm::Mn::Mo::Mq::Mr::Ms::Mt::Mu::Mv::Mw::Mx::My::Mz::MA::MB::MC::MD::ME::MF::MG::MH::MI::MJ::MK::ML::MM::MN::MO::MP::MQ::MR::MS::MT::MU::MV::MW::MX::MY::MZ::M0::M1::M4::M5::M6::M7::M8::M9::M_::Na::Nb::Nc::Nf::Ng::Nh::Ni::Nj::Nk::Nl::Nm::Nn::No::Np::Nq::Nr::Ns::Nt::Nu::Nv::Nw::Nx::Ny::Nz::NA::NB::NC::ND::NF::NG::NH::NI::NJ::NK::NL::NM::NN::NO::NP::NQ::NR::NS::NT::NU::NV::NW::NX::NY::NZ::N5::N7::N8::N_::Oa::Oc::Od::Oe::Of::Og::Oh::Oi::Oj::Ol::Om::On::Oo::Oq::Ot::Ou::Ov::Ox::Oy::Oz::OA::OB::OC::OD::OE::OF::OG::OH::OI::OJ::OK::OL::OM::ON::OO::OQ::OS::OT::OU::OV::OW::OX::OY::OZ::O0::O1::O2::O3::O4::O5::O6::O7::O8::O9::O_::Pb::Pc::Pd::Pf::Pg::Ph::[]),[]⟩ y4:=by
 conv=>arg 2;whnf
 have HSB:=aa hSB
 have HSm:=aa hsm
 have HOp:=aa hop
 have HDn:=aa hdn
 have HN:=aa hN
 clear hSB hsm hop hdn hN
 go_upto_block 2 with fail
 go_cut [13,14] from 79 to 100 (λv _ U=>∃(a:Option Addr) (cap:Nat),v=.slice a (aN cl.au p.P).length cap/\Fl U a (az (aN cl.au p.P))/\Below y4.heap.size y4 U)
 case first =>
  refine wK HSB.o HSm.o ?_
  rintro a cap w9 ⟨hf9,hb9⟩
  intros
  go_wp2
  go_meet
  exact⟨a,cap,rfl,hf9,hb9⟩
 case rest =>
  obtain⟨a,cap,rfl,hf9,hb9⟩:=hcut
  have g:=(HSB.o _ hb9).call
  have HF9:=aa hf9
  have HB9:=aa hb9
  have x6:=g.cell 6 rfl
  have x0:=g.cell 0 rfl
  have x9:=g.cell 9 rfl
  have x10:=g.cell 10 rfl
  have hdv:dd.v=.slice dd.a cl.data.length dd.c:=by unfold R.Sl.v;rw [HDn.o]
  rw [hdv] at x10
  have x3:=g.cell 3 rfl
  have x4:=g.cell 4 rfl
  have x5:=g.cell 5 rfl
  clear g hf9 hb9 hdv
  obtain⟨gv,hgv⟩:∃gv,gv=cl.given:=⟨_,rfl⟩
  rw [<-hgv] at x6
  have HG:=aa hgv
  clear hgv
  cases gv with
  | false =>
   have hkx:kx cl p=aN cl.au p.P:=by unfold kx;rw [<-HG.o];rfl
   have HKx:=aa hkx
   clear hkx
   rcases HOp.o with h5|h6
   ·rw [h5] at x0
    have H5:=aa h5
    clear h5
    go_upto_region 21 with fail
    go_cut [110] from 108 to 110 (λv U=>v=.bool false/\wc=U)
    case first =>
     go_wp2
     go_meet
     exact⟨rfl,rfl⟩
    case rest =>
     obtain⟨rfl,hyy⟩:=hcut
     subst hyy
     have HE:=aa (λ(KP LW LX LY LZ L3 L5 L6 L7 L8 L9 L_ Ma Mb Mc Md Me Mf Mg Mh Mi Mj Ml Mm Mn Mo Mq Mr Ms Mt Mu Mv Mw Mx My Mz:Value)=>HN.o a cap 1 cl.n wc ⟨by rw [HKx.o];exact HF9.o,HB9.o,.inl ⟨H5.o,rfl,rfl⟩⟩ KP LW LX LY LZ L3 L5 L6 L7 L8 L9 L_ Ma Mb Mc Md Me Mf Mg Mh Mi Mj Ml Mm Mn Mo Mq Mr Ms Mt Mu Mv Mw Mx My Mz)
     rw [HKx.o] at HE
     iterate 5 (first|go_upon|go_back|go_step)
     exact HE.o _ _ _ _ _ _ _ _ _ _ _ _ _ _ _ _ _ _ _ _ _ _ _ _ _ _ _ _ _ _ _ _ _ _ _ _
   ·rw [h6] at x0
    have H6:=aa h6
    clear h6
    go_upto_region 23 with fail
    go_cut [16] from 111 to 113 (λv U=>v=.int .i64 (cl.data.length:Int)/\wc=U)
    case first =>
     go_wp2
     go_meet
     exact⟨rfl,rfl⟩
    case rest =>
     obtain⟨rfl,hyy⟩:=hcut
     subst hyy
     have HE:=aa (λ(KP LW LX LY LZ L3 L5 L6 L7 L8 L9 L_ Ma Mb Mc Md Me Mf Mg Mh Mi Mj Ml Mm Mn Mo Mq Mr Ms Mt Mu Mv Mw Mx My Mz:Value)=>HN.o a cap 2 (cl.data.length:Int) wc ⟨by rw [HKx.o];exact HF9.o,HB9.o,.inr ⟨H6.o,rfl,rfl⟩⟩ KP LW LX LY LZ L3 L5 L6 L7 L8 L9 L_ Ma Mb Mc Md Me Mf Mg Mh Mi Mj Ml Mm Mn Mo Mq Mr Ms Mt Mu Mv Mw Mx My Mz)
     rw [HKx.o] at HE
     iterate 1 (first|go_upon|go_back|go_step)
     exact HE.o _ _ _ _ _ _ _ _ _ _ _ _ _ _ _ _ _ _ _ _ _ _ _ _ _ _ _ _ _ _ _ _ _ _ _ _
  | true =>
   have hkx:kx cl p=[bG cl]:=by unfold kx;rw [<-HG.o];rfl
   have HKx:=aa hkx
   clear hkx
   go_upto_region 19 with fail
   obtain⟨y5,hy5⟩:∃y5,y5=wc.alloc (Obj.cells #[.int .i64 cl.obj,.int .u64 (cl.hi:Int),.int .u64 (cl.lo:Int)] 38):=⟨_,rfl⟩
   rw [<-hy5]
   have HY:Hid (Below wc.heap.size wc y5):=by rw [hy5];exact ab _ _
   have HFy:Hid (Fl y5 (some ⟨wc.heap.size,0,none⟩) (az [bG cl])):=by
    have h9:=R.Bx.new wc [.int .i64 cl.obj,.int .u64 (cl.hi:Int),.int .u64 (cl.lo:Int)] 38
    rw [hy5]
    exact λ_=>⟨_,rfl,λj v hv=>by have:=h9.range j v hv;simpa using this⟩
   clear hy5
   have x0:=cell_later HY.o x0
   have x9:=cell_later HY.o x9
   have x10:=cell_later HY.o x10
   rcases HOp.o with h5|h6
   ·rw [h5] at x0
    have H5:=aa h5
    clear h5
    go_upto_region 21 with fail
    go_cut [110] from 108 to 110 (λv U=>v=.bool false/\y5=U)
    case first =>
     go_wp2
     go_meet
     exact⟨rfl,rfl⟩
    case rest =>
     obtain⟨rfl,hyy⟩:=hcut
     subst hyy
     have HE:=aa (λ(KP LW LX LY LZ L3 L5 L6 L7 L8 L9 L_ Ma Mb Mc Md Me Mf Mg Mh Mi Mj Ml Mm Mn Mo Mq Mr Ms Mt Mu Mv Mw Mx My Mz:Value)=>HN.o (some ⟨wc.heap.size,0,none⟩) 1 1 cl.n y5 ⟨by rw [HKx.o];exact HFy.o,al HB9.o HY.o,.inl ⟨H5.o,rfl,rfl⟩⟩ KP LW LX LY LZ L3 L5 L6 L7 L8 L9 L_ Ma Mb Mc Md Me Mf Mg Mh Mi Mj Ml Mm Mn Mo Mq Mr Ms Mt Mu Mv Mw Mx My Mz)
     rw [HKx.o] at HE
     iterate 5 (first|go_upon|go_back|go_step)
     exact HE.o _ _ _ _ _ _ _ _ _ _ _ _ _ _ _ _ _ _ _ _ _ _ _ _ _ _ _ _ _ _ _ _ _ _ _ _
   ·rw [h6] at x0
    have H6:=aa h6
    clear h6
    go_upto_region 23 with fail
    go_cut [16] from 111 to 113 (λv U=>v=.int .i64 (cl.data.length:Int)/\y5=U)
    case first =>
     go_wp2
     go_meet
     exact⟨rfl,rfl⟩
    case rest =>
     obtain⟨rfl,hyy⟩:=hcut
     subst hyy
     have HE:=aa (λ(KP LW LX LY LZ L3 L5 L6 L7 L8 L9 L_ Ma Mb Mc Md Me Mf Mg Mh Mi Mj Ml Mm Mn Mo Mq Mr Ms Mt Mu Mv Mw Mx My Mz:Value)=>HN.o (some ⟨wc.heap.size,0,none⟩) 1 2 (cl.data.length:Int) y5 ⟨by rw [HKx.o];exact HFy.o,al HB9.o HY.o,.inr ⟨H6.o,rfl,rfl⟩⟩ KP LW LX LY LZ L3 L5 L6 L7 L8 L9 L_ Ma Mb Mc Md Me Mf Mg Mh Mi Mj Ml Mm Mn Mo Mq Mr Ms Mt Mu Mv Mw Mx My Mz)
     rw [HKx.o] at HE
     iterate 1 (first|go_upon|go_back|go_step)
     exact HE.o _ _ _ _ _ _ _ _ _ _ _ _ _ _ _ _ _ _ _ _ _ _ _ _ _ _ _ _ _ _ _ _ _ _ _ _
def dA (off n:Int)(l:Nat):Bool:=decide (off<0)||(decide (n<0)||(decide (n>1024)||decide (off>(l:Int) - n)))
theorem nR {Qx:Exit->Act->World->Prop}{p:Ps}{cl:R.Cl}{dd gg:R.Sl}{r:cU}{ra:Option Addr}{rn rc:Nat}{y4:World}{bw bc br:Nat}{a1:Option Addr}{e1:Nat}{Q1:List Ev}{a2:Option Addr}{e2:Nat}{a3:Option Addr}{e3:Nat}{Q3:List Ev}
  (hSB:∀U,Below y4.heap.size y4 U->Sb U p bw bc br cl dd gg r ra rn rc a1 e1 Q1 a2 e2 a3 e3 Q3) (hsm:p.Small) {H:Hd} {a:Option Addr} {cap:Nat} {K:List Cp} {need nn:Int} (hKl:K.length<=1048576) (hF:Fl y4 a (az K))
  (hno:dL cl.obj need p.T K=false->r.code=3\/r.code=4) (hyes:dL cl.obj need p.T K=true->r.code=if dA cl.off nn (aN cl.obj p.O).length then 5 else 0)
  (hol:(aN cl.obj p.O).length<=1048576) (hnn:-9223372036854775808<=nn/\nn<=9223372036854775807)
  (hN:dL cl.obj need p.T K=true->r.code=0->dA cl.off nn (aN cl.obj p.O).length=false->∀(ao:Option Addr) (co:Nat) (w':World),((ao=none/\(aN cl.obj p.O).length=0/\∀v∈p.O,v.1≠cl.obj)\/∃e∈Q1,e.id=cl.obj/\e.a=ao/\e.len=(aN cl.obj p.O).length/\e.cap=co/\e.vs=S.aM (aN cl.obj p.O))/\Below y4.heap.size y4 w'->∀(KS KT KU KW MA MB MC MD ME MF MG MH MI MJ MK ML MM MN MO MP MQ MR MS MT MU MV MW MX MY MZ M0 M1 M4 M5 M6 M7 M8 M9 M_ Na Nb Nc Nf Ng Nh Ni Nj Nk Nl Nm Nn No Np Nq Nr Ns Nt Nu Nv Nw Nx Ny Nz NA NB NC ND NF NG NH NI NJ NK NL NM NN NO NP NQ NR NS NT NU NV NW NX NY NZ N5 N7 N8 N_ Oa Oc Od Oe Of Og Oh Oi Oj Ol Om On Oo Oq Ot Ou Ov Ox Oy Oz:Value),Code.wp prog (rs 17 (kF Tryz.f4.body)) Qx ⟨List.toArray (bM::kC::KC::KD::KE::KG::KH::.pointer (some ⟨H.kb,0,none⟩)::KJ::KK::.pointer (some ⟨bc,0,none⟩)::.pointer (some ⟨bw,0,none⟩)::.pointer (some ⟨br,0,none⟩)::.slice a K.length cap::KP::.int .i64 need::.int .i64 nn::KS::KT::KU::.slice ao (aN cl.obj p.O).length co::KW::KX::KY::KZ::K0::K1::K2::K3::K4::K5::K6::K7::K8::K9::K_::La::Lc::Ld::Le::Lf::Lg::Lh::Lj::Lk::Ll::Lm::Ln::Lo::Lp::Lq::Ls::Lt::Lu::Lv::Lw::Lx::Ly::Lz::LA::LB::LC::LD::LF::LG::LH::LI::LJ::LK::LL::LM::LN::LO::LP::LQ::LR::LS::LU::LV::LW::LX::LY::LZ::L3::L5::L6::L7::L8::L9::L_::Ma::Mb::Mc::Md::Me::Mf::Mg::Mh::Mi::Mj::Ml::Mm::Mn::Mo::Mq::Mr::Ms::Mt::Mu::Mv::Mw::Mx::My::Mz::MA::MB::MC::MD::ME::MF::MG::MH::MI::MJ::MK::ML::MM::MN::MO::MP::MQ::MR::MS::MT::MU::MV::MW::MX::MY::MZ::M0::M1::M4::M5::M6::M7::M8::M9::M_::Na::Nb::Nc::Nf::Ng::Nh::Ni::Nj::Nk::Nl::Nm::Nn::No::Np::Nq::Nr::Ns::Nt::Nu::Nv::Nw::Nx::Ny::Nz::NA::NB::NC::ND::NF::NG::NH::NI::NJ::NK::NL::NM::NN::NO::NP::NQ::NR::NS::NT::NU::NV::NW::NX::NY::NZ::N5::N7::N8::N_::Oa::Oc::Od::Oe::Of::Og::Oh::Oi::Oj::Ol::Om::On::Oo::Oq::Ot::Ou::Ov::Ox::Oy::Oz::OA::OB::OC::OD::OE::OF::OG::OH::OI::OJ::OK::OL::OM::ON::OO::OQ::OS::OT::OU::OV::OW::OX::OY::OZ::O0::O1::O2::O3::O4::O5::O6::O7::O8::O9::O_::Pb::Pc::Pd::Pf::Pg::Ph::[]),[]⟩ w')
  (hK:∀(w':World),Below y4.heap.size y4 w'->∀(KS KT KU KV KW MA MB MC MD ME MF MG MH MI MJ MK ML MM MN MO MP MQ MR MS MT MU MV MW MX MY MZ M0 M1 M4 M5 M6 M7 M8 M9 M_ Na Nb Nc Nf Ng Nh Ni Nj Nk Nl Nm Nn No Np Nq Nr Ns Nt Nu Nv Nw Nx Ny Nz NA NB NC ND NF NG NH NI NJ NK NL NM NN NO NP NQ NR NS NT NU NV NW NX NY NZ N5 N7 N8 N_ Oa Oc Od Oe Of Og Oh Oi Oj Ol Om On Oo Oq Ot Ou Ov Ox Oy Oz:Value),Qx (.exit 1) ⟨List.toArray (bM::kC::KC::KD::KE::KG::KH::.pointer (some ⟨H.kb,0,none⟩)::KJ::KK::.pointer (some ⟨bc,0,none⟩)::.pointer (some ⟨bw,0,none⟩)::.pointer (some ⟨br,0,none⟩)::.slice a K.length cap::KP::.int .i64 need::.int .i64 nn::KS::KT::KU::KV::KW::KX::KY::KZ::K0::K1::K2::K3::K4::K5::K6::K7::K8::K9::K_::La::Lc::Ld::Le::Lf::Lg::Lh::Lj::Lk::Ll::Lm::Ln::Lo::Lp::Lq::Ls::Lt::Lu::Lv::Lw::Lx::Ly::Lz::LA::LB::LC::LD::LF::LG::LH::LI::LJ::LK::LL::LM::LN::LO::LP::LQ::LR::LS::LU::LV::LW::LX::LY::LZ::L3::L5::L6::L7::L8::L9::L_::Ma::Mb::Mc::Md::Me::Mf::Mg::Mh::Mi::Mj::Ml::Mm::Mn::Mo::Mq::Mr::Ms::Mt::Mu::Mv::Mw::Mx::My::Mz::MA::MB::MC::MD::ME::MF::MG::MH::MI::MJ::MK::ML::MM::MN::MO::MP::MQ::MR::MS::MT::MU::MV::MW::MX::MY::MZ::M0::M1::M4::M5::M6::M7::M8::M9::M_::Na::Nb::Nc::Nf::Ng::Nh::Ni::Nj::Nk::Nl::Nm::Nn::No::Np::Nq::Nr::Ns::Nt::Nu::Nv::Nw::Nx::Ny::Nz::NA::NB::NC::ND::NF::NG::NH::NI::NJ::NK::NL::NM::NN::NO::NP::NQ::NR::NS::NT::NU::NV::NW::NX::NY::NZ::N5::N7::N8::N_::Oa::Oc::Od::Oe::Of::Og::Oh::Oi::Oj::Ol::Om::On::Oo::Oq::Ot::Ou::Ov::Ox::Oy::Oz::OA::OB::OC::OD::OE::OF::OG::OH::OI::OJ::OK::OL::OM::ON::OO::OQ::OS::OT::OU::OV::OW::OX::OY::OZ::O0::O1::O2::O3::O4::O5::O6::O7::O8::O9::O_::Pb::Pc::Pd::Pf::Pg::Ph::[]),[]⟩ w') :
  Code.wp prog (rs 10 (kF Tryz.f4.body)) Qx ⟨List.toArray (bM::kC::KC::KD::KE::KG::KH::.pointer (some ⟨H.kb,0,none⟩)::KJ::KK::.pointer (some ⟨bc,0,none⟩)::.pointer (some ⟨bw,0,none⟩)::.pointer (some ⟨br,0,none⟩)::.slice a K.length cap::KP::.int .i64 need::.int .i64 nn::KS::KT::KU::KV::KW::KX::KY::KZ::K0::K1::K2::K3::K4::K5::K6::K7::K8::K9::K_::La::Lc::Ld::Le::Lf::Lg::Lh::Lj::Lk::Ll::Lm::Ln::Lo::Lp::Lq::Ls::Lt::Lu::Lv::Lw::Lx::Ly::Lz::LA::LB::LC::LD::LF::LG::LH::LI::LJ::LK::LL::LM::LN::LO::LP::LQ::LR::LS::LU::LV::LW::LX::LY::LZ::L3::L5::L6::L7::L8::L9::L_::Ma::Mb::Mc::Md::Me::Mf::Mg::Mh::Mi::Mj::Ml::Mm::Mn::Mo::Mq::Mr::Ms::Mt::Mu::Mv::Mw::Mx::My::Mz::MA::MB::MC::MD::ME::MF::MG::MH::MI::MJ::MK::ML::MM::MN::MO::MP::MQ::MR::MS::MT::MU::MV::MW::MX::MY::MZ::M0::M1::M4::M5::M6::M7::M8::M9::M_::Na::Nb::Nc::Nf::Ng::Nh::Ni::Nj::Nk::Nl::Nm::Nn::No::Np::Nq::Nr::Ns::Nt::Nu::Nv::Nw::Nx::Ny::Nz::NA::NB::NC::ND::NF::NG::NH::NI::NJ::NK::NL::NM::NN::NO::NP::NQ::NR::NS::NT::NU::NV::NW::NX::NY::NZ::N5::N7::N8::N_::Oa::Oc::Od::Oe::Of::Og::Oh::Oi::Oj::Ol::Om::On::Oo::Oq::Ot::Ou::Ov::Ox::Oy::Oz::OA::OB::OC::OD::OE::OF::OG::OH::OI::OJ::OK::OL::OM::ON::OO::OQ::OS::OT::OU::OV::OW::OX::OY::OZ::O0::O1::O2::O3::O4::O5::O6::O7::O8::O9::O_::Pb::Pc::Pd::Pf::Pg::Ph::[]),[]⟩ y4:=by
 conv=>arg 2;whnf
 have HSB:=aa hSB
 have HSm:=aa hsm
 have HKl:=aa hKl
 have HF:=aa hF
 have HNo:=aa hno
 have HYes:=aa hyes
 have HOl:=aa hol
 have HNn:=aa hnn
 have HN:=aa hN
 have HK:=aa hK
 clear hSB hsm hKl hF hno hyes hol hnn hN hK
 go_upto_block 4 with fail
 go_cut [17,18,19] from 114 to 162 (λv _ _ U=>v=.bool (dL cl.obj need p.T K)/\Below y4.heap.size y4 U)
 case first =>
  refine zR HSB.o HSm.o HKl.o HF.o ?_
  rintro w9 hb9
  intros
  go_wp2
  go_meet
  exact⟨rfl,hb9⟩
 case rest =>
  obtain⟨rfl,hb9⟩:=hcut
  have HB9:=aa hb9
  have g:=HSB.o wc hb9
  have r0:=g.rep.cell 0 rfl
  clear g hb9 HF HKl
  obtain⟨sb,hsb⟩:∃sb,sb=dL cl.obj need p.T K:=⟨_,rfl⟩
  rw [<-hsb] at HNo HYes HN ⊢
  clear hsb
  cases sb with
  | false =>
   rcases HNo.o rfl with hc|hc
   ·rw [hc] at r0
    go_wp2
    exact HK.o _ HB9.o ..
   ·rw [hc] at r0
    go_wp2
    exact HK.o _ HB9.o ..
  | true =>
   go_upto_block 8 with fail
   go_cut [20,21] from 173 to 195 (λv _ U=>∃(ao:Option Addr) (co:Nat),v=.slice ao (aN cl.obj p.O).length co/\((ao=none/\(aN cl.obj p.O).length=0/\∀v∈p.O,v.1≠cl.obj)\/∃e∈Q1,e.id=cl.obj/\e.a=ao/\e.len=(aN cl.obj p.O).length/\e.cap=co/\e.vs=S.aM (aN cl.obj p.O))/\Below y4.heap.size y4 U)
   case first =>
    refine zQ (y4:=wc) (λU hU=>HSB.o U (al HB9.o hU)) HSm.o ?_
    rintro ao co w8 ⟨hf8,hb8⟩
    intros
    go_wp2
    go_meet
    exact⟨ao,co,rfl,hf8,al HB9.o hb8⟩
   case rest =>
    obtain⟨ao,co,rfl,hf8,hb8⟩:=hcut
    have HF8:=aa hf8
    have HB8:=aa hb8
    have g:=HSB.o _ hb8
    have r0:=g.rep.cell 0 rfl
    have x8:=g.call.cell 8 rfl
    have hc:=HYes.o rfl
    obtain⟨L,hL⟩:∃L,L=(aN cl.obj p.O).length:=⟨_,rfl⟩
    rw [<-hL] at HF8 HOl HN hc ⊢
    have hll:=HOl.o
    have hnn:=HNn.o
    clear hL g hf8 hb8 HB9 HYes HNo
    obtain⟨of,hof⟩:∃of,of=cl.off:=⟨_,rfl⟩
    rw [<-hof] at x8 hc HN
    clear hof
    by_cases h1:of<0
    ·have d1:decide (of<0)=true:=dT h1
     have hz:dA of nn L=true:=by unfold dA;simp;omega
     rw [hz,if_pos rfl] at hc
     rw [hc] at r0
     clear hz hc
     go_wp2
     exact HK.o _ HB8.o ..
    ·have d1:decide (of<0)=false:=dF h1
     by_cases h2:nn<0
     ·have d2:decide (nn<0)=true:=dT h2
      have hz:dA of nn L=true:=by unfold dA;simp;omega
      rw [hz,if_pos rfl] at hc
      rw [hc] at r0
      clear hz hc
      go_wp2
      exact HK.o _ HB8.o ..
     ·have d2:decide (nn<0)=false:=dF h2
      by_cases h3:nn>1024
      ·have d3:decide (nn>1024)=true:=dT h3
       have d3':decide (1024<nn)=true:=dT h3
       have hz:dA of nn L=true:=by unfold dA;simp;omega
       rw [hz,if_pos rfl] at hc
       rw [hc] at r0
       clear hz hc
       go_wp2
       exact HK.o _ HB8.o ..
      ·have d3:decide (nn>1024)=false:=dF h3
       have d3':decide (1024<nn)=false:=dF h3
       by_cases h4:of>(L:Int) - nn
       ·have d4:decide (of>(L:Int) - nn)=true:=dT h4
        have d4':decide ((L:Int) - nn<of)=true:=dT h4
        have hz:dA of nn L=true:=by unfold dA;simp;omega
        rw [hz,if_pos rfl] at hc
        rw [hc] at r0
        clear hz hc
        go_wp2
        exact HK.o _ HB8.o ..
       ·have d4:decide (of>(L:Int) - nn)=false:=dF h4
        have d4':decide ((L:Int) - nn<of)=false:=dF h4
        have hz:dA of nn L=false:=by unfold dA;simp;omega
        rw [hz,if_neg (by simp)] at hc
        rw [hc] at r0
        have HZ:=aa hz
        have HC:=aa hc
        clear hz hc
        go_upto_region 44 with fail
        obtain⟨wd,hwd⟩:∃wd,wd=wc:=⟨_,rfl⟩
        go_cut [221] from 219 to 221 (λv U=>v=.bool false/\wc=U)
        case first =>
         go_wp2
         go_meet
         exact⟨rfl,rfl⟩
        case rest =>
         obtain⟨rfl,hyy⟩:=hcut
         subst hyy
         first|go_upon|go_back|go_step
         first|go_upon|go_back|go_step
         first|go_upon|go_back|go_step
         first|go_upon|go_back|go_step
         first|go_upon|go_back|go_step
         exact HN.o rfl HC.o HZ.o ao co _ ⟨HF8.o,HB8.o⟩ _ _ _ _ _ _ _ _ _ _ _ _ _ _ _ _ _ _ _ _ _ _ _ _ _ _ _ _ _ _ _ _ _ _ _ _ _ _ _ _ _ _ _ _ _ _ _ _ _ _ _ _ _ _ _ _ _ _ _ _ _ _ _ _ _ _ _ _ _ _ _ _ _ _ _ _ _ _ _ _ _ _ _ _ _ _ _ _ _ _ _ _ _ _ _ _ _ _ _ _ _ _ _ _ _ _ _ _ _ _ _ _
section
variable {w w':World}
def Fo (w:World)(a:Option Addr)(L:List Value):Prop:=0<L.length->∃g o,a=some ⟨g,o,none⟩/\∀j v,L[j]?=some v->w.cell? ⟨g,o+j,none⟩=some v
theorem Fo.later {L:List Value}(h:Fo w a L)(hb:Below w.heap.size w w'):Fo w' a L:=λh0=>by
 obtain⟨g,o,h1,h2⟩:=h h0
 exact⟨g,o,h1,λj v hv=>cell_later hb (h2 j v hv)⟩
theorem Fo.cut {g:Nat}{l:List Nat}{off n:Nat}(h:Fl w (some ⟨g,0,none⟩) (S.aM l)):Fo w (some ⟨g,off,none⟩) (S.aM ((l.drop off).take n)):=λh0=>by
 refine⟨g,off,rfl,λj v hv=>?_⟩
 have hv2:(S.aM l)[off+j]?=some v:=by
  simp only [S.aM,List.getElem?_map,List.getElem?_take,List.getElem?_drop] at hv ⊢
  split at hv
  ·exact hv
  ·cases hv
 obtain⟨g',e,hc⟩:=h (by have:=(gS.1 hv2).1;omega)
 cases e
 exact hc _ _ hv2
theorem m9 (L:List Nat){a b:Option Addr}{ca cb:Nat}(h:Fl w a (S.aM L))(k:Fo w b (S.aM L))(hn:L.length<=140737488355328) :
  Calls prog 19 #[.slice a L.length ca,.slice b L.length cb] w λe w'=>e=.returned (.bool true)/\Below w.heap.size w w':=by
 obtain⟨n,hnn⟩:∃n,n=L.length:=⟨_,rfl⟩
 have HL:=aa hnn
 have H:=aa h
 have HK:=aa k
 rw [<-hnn] at hn ⊢
 clear h k hnn
 go_enter func19,ntmps19
 go_upto_region 4 with fail
 go_loopw [5] (λv U=>∃i:Nat,v=.int .i64 (i:Int)/\i<=n/\Below w.heap.size w U) (λv _=>n - S.ef v)
 case atStart=>exact⟨0,rfl,Nat.zero_le _,Below.refl _ _⟩
 case round =>
  obtain⟨i,rfl,hi,hB⟩:=hrel
  have HIn:=aa hi
  have HB:=aa hB
  clear hi hB
  by_cases hlt:i<n
  ·have hd:decide ((i:Int)<(n:Int))=true:=dT (by omega)
   obtain⟨x,hx⟩:∃x,L[i]?=some x:=⟨_,gE (by have:=HL.o;omega)⟩
   have h0:0<(S.aM L).length:=by rw [S.ax];have:=HL.o;omega
   obtain⟨ga,rfl,hca⟩:=H.o h0
   obtain⟨gb,ob,rfl,hcb⟩:=HK.o h0
   skip
   have HS:Hid (∀U,Below wr.heap.size wr U->U.cell? ⟨ga,i,none⟩=some (.int .u8 (x:Int))/\U.cell? ⟨gb,ob+i,none⟩=some (.int .u8 (x:Int))):=λU hU=>by
    have hU2:=al HB.o hU
    exact⟨cell_later hU2 (hca _ _ (by simp [S.aM,hx])),cell_later hU2 (hcb _ _ (by simp [S.aM,hx]))⟩
   clear hca hcb hx h0
   go_upto_region 6 with fail
   go_region_held3 (λU=>U.cell? ⟨ga,i,none⟩=some (.int .u8 (x:Int))/\U.cell? ⟨gb,ob+i,none⟩=some (.int .u8 (x:Int))) (first|exact HS.o _ (Below.refl _ _).drew|exact HS.o _ (Below.refl _ _)) (first|fail)
   all_goals (try go_wp2)
   all_goals exact⟨⟨i+1,rfl,by omega,(HB.o.drew)⟩,by simp [S.ef];omega⟩
  ·obtain rfl:i=n:=by have:=HIn.o;omega
   have hd:decide ((i:Int)<(i:Int))=false:=by simp
   go_wp2
   go_ret
   exact⟨cW rfl,HB.o⟩
end
section
variable {w w':World}
def pw (p:Ps)(o:Int)(off:Nat)(D:List Nat):Ps:={ p with O:=p.O.map (S.iH o off D) }
theorem Az (o:Int)(off:Nat)(D:List Nat)(v:Int×List Nat):(S.iH o off D v).1=v.1:=by unfold S.iH;split<;>rfl
theorem uc (m:Nat)(s:aI)(o:Int)(off:Nat)(D:List Nat):eE m { s with V:=s.V.map (S.iH o off D) }=pw (eE m s) o off D:=by
 have e:(s.V.map (S.iH o off D)).map Prod.fst=s.V.map Prod.fst:=by
  rw [List.map_map]
  exact List.map_congr_left (λv _=>Az o off D v)
 unfold eE pw
 simp only [e]
def qw (Q:List Ev)(o:Int)(V:List Value):List Ev:=Q.map (λe=>if e.id=o then { e with vs:=V } else e)
theorem Cv (o:Int)(V:List Value):∀Q:List Ev,sn (qw Q o V)=sn Q
 | []=>rfl
 | e::Q=>by
  have ih:=Cv o V Q
  simp only [sn,qw,List.map_cons,List.flatMap_cons] at ih ⊢
  rw [ih]
  congr 1
  split<;>rfl
theorem lE {O:List (Int×List Nat)}(hr:O.Pairwise (λa b=>a.1<b.1)){x y:Int×List Nat}(hx:x∈O)(hy:y∈O)(e:x.1=y.1):x=y:=by
 obtain⟨i,hi,rfl⟩:=List.getElem_of_mem hx
 obtain⟨j,hj,rfl⟩:=List.getElem_of_mem hy
 have h3:=List.pairwise_iff_getElem.1 hr
 rcases Nat.lt_trichotomy i j with h|h|h
 ·have:=h3 i j hi hj h;omega
 ·subst h;rfl
 ·have:=h3 j i hj hi h;omega
theorem Bh {Q:List Ev}{O:List (Int×List Nat)}(hk:Q.map Ev.key=O.map sk)(hr:O.Pairwise (λa b=>a.1<b.1)){x y:Ev}(hx:x∈Q)(hy:y∈Q)(e:x.id=y.id):x=y:=by
 have h1:Q.map Ev.id=O.map Prod.fst:=by
  have:=congrArg (List.map (λk:Int×List Value×Nat=>k.1)) hk
  rw [List.map_map,List.map_map] at this
  exact this
 have h2:(Q.map Ev.id).Pairwise (·<·):=by rw [h1,List.pairwise_map];exact hr
 rw [List.pairwise_map] at h2
 obtain⟨i,hi,rfl⟩:=List.getElem_of_mem hx
 obtain⟨j,hj,rfl⟩:=List.getElem_of_mem hy
 have h3:=List.pairwise_iff_getElem.1 h2
 rcases Nat.lt_trichotomy i j with h|h|h
 ·have:=h3 i j hi hj h;omega
 ·subst h;rfl
 ·have:=h3 j i hj hi h;omega
theorem ed.apart {E ty:Nat}{cap:Nat}{Q:List Ev}(h:ed w base E ty k a n cap Q){x y:Ev}(hx:x∈Q)(hy:y∈Q)(hne:x≠y)(j:Nat)(h1:aD x.a j):¬aD y.a j:=by
 obtain⟨i,hi,rfl⟩:=List.getElem_of_mem hx
 obtain⟨i',hi',rfl⟩:=List.getElem_of_mem hy
 have h3:=List.pairwise_iff_getElem.1 h.ap
 rcases Nat.lt_trichotomy i i' with h9|h9|h9
 ·exact h3 i i' hi hi' h9 j h1
 ·subst h9;exact absurd rfl hne
 ·exact λh2=>h3 i' i hi' hi h9 j h2 h1
theorem yT (o:Int){l D:List Nat}{off:Nat}(hle:off+D.length<=l.length):∀(Q:List Ev) (O:List (Int×List Nat)),Q.map Ev.key=O.map sk->(∀v∈O,v.1=o->v.2=l)->(qw Q o (S.aM (S.bR l D off))).map Ev.key=(O.map (S.iH o off D)).map sk
 | [],[],_,_=>rfl
 | [],v::O,h,_=>by simp at h
 | e::Q,[],h,_=>by simp at h
 | e::Q,v::O,h,hl=>by
  simp only [List.map_cons,List.cons.injEq] at h
  have ih:=yT o hle Q O h.2 (λv hv=>hl v (List.mem_cons_of_mem _ hv))
  have h1:=h.1
  simp only [Ev.key,sk,Prod.mk.injEq] at h1
  simp only [qw,List.map_cons] at ih ⊢
  rw [ih]
  congr 1
  by_cases g:v.1=o
  ·have g2:=hl v (List.mem_cons_self ..) g
   rw [if_pos (h1.1.trans g)]
   unfold S.iH
   rw [if_pos g]
   simp only [Ev.key,sk,Prod.mk.injEq]
   rw [g2]
   exact⟨h1.1,rfl,by rw [S.dG hle,h1.2.2,g2]⟩
  ·rw [if_neg (λe=>g (h1.1.symm.trans e))]
   unfold S.iH
   rw [if_neg g]
   exact h.1
theorem tX {p:Ps}{a1:Option Addr}{c1:Nat}{Q1:List Ev}{a2:Option Addr}{c2:Nat}{a3:Option Addr}{c3:Nat}{Q3:List Ev}(hT:df w base p a1 c1 Q1 a2 c2 a3 c3 Q3)(hr:p.O.Pairwise (λa b=>a.1<b.1)){e:Ev}(he:e∈Q1){l D:List Nat}{off:Nat}(hl:(e.id,l)∈p.O)(hle:off+D.length<=l.length){b2 n2 cap2:Nat}
  (hO:Own w' b2 5 e.a n2 cap2 (S.aM (S.bR l D off))) (hb:ae (aD e.a) w w'):ng w' (pw p e.id off D) a1 (qw Q1 e.id (S.aM (S.bR l D off))) a2 a3 Q3:=by
 have ap:∀j,aD a1 j->¬aD e.a j:=λj h1 h2=>hT.os.top e he j h2 h1
 have a2':∀j,aD a2 j->¬aD e.a j:=λj h1 h2=>hT.JT j (.inr ⟨e,he,h2⟩) h1
 have a3':∀j,ed.B a3 Q3 j->¬aD e.a j:=λj h1 h2=>hT.JN j (.inr ⟨e,he,h2⟩) h1
 have L0:=hT.look
 refine⟨?_,yT _ hle _ _ hT.ok (λv hv g=>?_),λx hx=>?_,Fl.of (hT.ts.but hb a2') (by rw [gZ];rfl),Fl.of (hT.ps.row.but hb (λj hj=>a3' j (.inl hj))) (by rw [dv,hT.ps.len]),hT.pk,λx hx=>?_⟩
 ·rw [Cv]
  exact Fl.of (hT.os.row.but hb ap) (by rw [dv,hT.os.len])
 ·have:=lE hr hv hl g
  rw [this]
 ·unfold qw at hx
  obtain⟨y,hy,rfl⟩:=List.mem_map.1 hx
  by_cases g:y.id=e.id
  ·rw [if_pos g]
   have:y=e:=Bh hT.ok hr hy he g
   subst this
   exact Fl.own hO
  ·rw [if_neg g]
   have hne:y≠e:=λh=>g (by rw [h])
   have hm:y.key∈p.O.map sk:=by rw [<-hT.ok];exact List.mem_map_of_mem hy
   obtain⟨v,_,hv⟩:=List.mem_map.1 hm
   simp only [sk,Ev.key,Prod.mk.injEq] at hv
   refine Fl.of ((hT.os.each y hy).but hb (λj hj=>hT.os.apart hy he hne j hj)) ?_
   rw [<-hv.2.1,<-hv.2.2,S.ax,Nat.mul_one]
 ·have hm:x.key∈p.P.map Df:=by rw [<-hT.pk];exact List.mem_map_of_mem hx
  obtain⟨v,_,hv⟩:=List.mem_map.1 hm
  simp only [Df,Ev.key,Prod.mk.injEq] at hv
  refine Fl.of ((hT.ps.each x hx).but hb (λj hj=>a3' j (.inr ⟨x,hx,hj⟩))) ?_
  rw [<-hv.2.1,<-hv.2.2,g6]
theorem DZ {o:Int}{l:List Nat}{O:List (Int×List Nat)}(hr:O.Pairwise (λa b=>a.1<b.1))(h:(o,l)∈O):aN o O=l:=by
 have key:∀(O:List (Int×List Nat)) (K:List Nat),(∀v∈O,v.1=o->v.2=l)->((o,l)∈O\/K=l)->O.foldl (λK q=>if q.1=o then q.2 else K) K=l:=by
  intro O
  induction O with
  | nil =>
   intro K _ h
   rcases h with h|h
   ·cases h
   ·exact h
  | cons v r ih =>
   intro K hl h
   simp only [List.foldl_cons]
   refine ih _ (λx hx=>hl x (List.mem_cons_of_mem _ hx)) ?_
   by_cases e:v.1=o
   ·right;rw [if_pos e];exact hl v (List.mem_cons_self ..) e
   ·rw [if_neg e]
    rcases h with h|h
    ·rcases List.mem_cons.1 h with h|h
     ·rw [<-h] at e;exact absurd rfl e
     ·exact .inl h
    ·exact .inr h
 exact key O [] (λv hv e=>by rw [lE hr hv h e]) (.inl h)
theorem vc {o:Int}{O:List (Int×List Nat)}{B:Nat}(h:∀v∈O,v.2.length<=B):(aN o O).length<=B:=by
 have key:∀(O:List (Int×List Nat)) (K:List Nat),(∀v∈O,v.2.length<=B)->K.length<=B->(O.foldl (λK q=>if q.1=o then q.2 else K) K).length<=B:=by
  intro O
  induction O with
  | nil=>intro K _ h;exact h
  | cons v r ih =>
   intro K hl h
   simp only [List.foldl_cons]
   refine ih _ (λx hx=>hl x (List.mem_cons_of_mem _ hx)) ?_
   split
   ·exact hl v (List.mem_cons_self ..)
   ·exact h
 exact key O [] h (Nat.zero_le _)
theorem at_mem {V:List (Int×List Nat)}{o:Int}{l:List Nat}(h:S.kO V o=some l):(o,l)∈V:=by
 unfold S.kO at h
 cases hf:V.find? (λp=>decide (p.1=o)) with
 | none=>rw [hf] at h;cases h
 | some v =>
  rw [hf] at h
  simp only [Option.map_some,Option.some.injEq] at h
  have h1:=List.find?_some hf
  have h2:=List.mem_of_find?_eq_some hf
  simp only [decide_eq_true_eq] at h1
  rw [<-h,<-h1]
  exact h2
theorem zL {p:Ps}{o:Int}{off:Nat}{l D:List Nat}(h:p.Small)(hr:p.O.Pairwise (λa b=>a.1<b.1))(hl:(o,l)∈p.O)(hle:off+D.length<=l.length):(pw p o off D).Small:=by
 refine⟨by show (p.O.map _).length<=_;rw [List.length_map];exact h.o,h.t,h.q,λv hv=>?_,h.pe⟩
 obtain⟨x,hx,rfl⟩:=List.mem_map.1 hv
 unfold S.iH
 split
 ·next e =>
  have:=lE hr hx hl e
  rw [this]
  show (S.bR l D off).length<=_
  rw [S.dG hle]
  exact h.oe _ hl
 ·exact h.oe _ hx
end
end Go.Proofs.YtfmhdimaijimlaaGreatDoor.V
