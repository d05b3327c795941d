import Derived.Test.YtfmhdimaijimlaaGreatDoorZYP
set_option linter.all false
set_option maxRecDepth 1000000
set_option maxHeartbeats 8000000
open Go.Proofs.Tryz
variable {bM kC KC KD KE KG KH KI KJ KK KM KN KO KP KQ KR KS KT KU KV KW KX KY KZ K0 K1 K2 K3 K4 K5 K6 K7 K8 K9 K_ La Lc Ld Le Lf Lg Lh Lj Lk Ll Lm Ln Lo Lp Lq Ls Lt Lu Lv Lw Lx Ly Lz LA LB LC LD LF LG LH LI LJ LK LL LM LN LO LP LQ LR LS LU LV LW LX LY LZ L3 L5 L6 L7 L8 L9 L_ Ma Mb Mc Md Me Mf Mg Mh Mi Mj Ml Mm Mn Mo Mq Mr Ms Mt Mu Mv Mw Mx My Mz MA MB MC MD ME MF MG MH MI MJ MK ML MM MN MO MP MQ MR MS MT MU MV MW MX MY MZ M0 M1 M4 M5 M6 M7 M8 M9 M_ Na Nb Nc Nf Ng Nh Ni Nj Nk Nl Nm Nn No Np Nq Nr Ns Nt Nu Nv Nw Nx Ny Nz NA NB NC ND NF NG NH NI NJ NK NL NM NN NO NP NQ NR NS NT NU NV NW NX NY NZ N5 N7 N8 N_ Oa Oc Od Oe Of Og Oh Oi Oj Ol Om On Oo Oq Ot Ou Ov Ox Oy Oz OA OB OC OD OE OF OG OH OI OJ OK OL OM ON OO OQ OS OT OU OV OW OX OY OZ O0 O1 O2 O3 O4 O5 O6 O7 O8 O9 O_ Pb Pc Pd Pf Pg Ph:Go.Value}
variable {w w' w1 w2:Go.World}{n m k i j b g base kn:Nat}{a:Option Go.Addr}
namespace Go.Proofs.YtfmhdimaijimlaaGreatDoor.V
open Go.RowKit
open Go.Proofs.YtfmhdimaijimlaaGreatDoor.H (ak Cp)
open Go.Proofs.YtfmhdimaijimlaaGreatDoor.M (bh)
def kH (a:Option Addr)(c i:Nat):Option Addr:=if c=i then a else a.map (λx=>x.add i)
theorem Kg (w:World):(sizeOf 5).run prog w=.ok 1 w:=by kernel_rfl
theorem JH:prog.elem 39=5:=by kernel_rfl
theorem Fq:prog.underlying 39=some (.slice (prog.elem 39)):=underlying39
theorem vJ (w:World)(a:Option Addr)(n c i j:Nat)(h:i<=j)(hj:j<=c):(Instr.sliceAt 39 (.slice a n c) (some (.int .i64 (i:Int))) (some (.int .i64 (j:Int))) none).run prog w=.ok (.slice (kH a c i) (j - i) (c - i)) w:=by
 rw [run_sliceAt_slice _ _ _ _ _ _ Fq,run_slice_lh _ _ _ _ _ Fq _ _ _ _ (by omega) (by omega) (by omega),JH,Kg]
 simp [Result.andThen_ok,sliced,kH]
theorem Fo.kH {l:List Nat}{co off:Nat}(h:Fl w a (S.aM l))(hle:off+n<=l.length)(hco:l.length<=co):Fo w (kH a co off) (S.aM ((l.drop off).take n)):=λh0=>by
 have h1:0<n:=by
  rw [S.ax,List.length_take] at h0
  omega
 obtain⟨g,e,hc⟩:=h (by rw [S.ax];omega)
 subst e
 have e2:V.kH (some ⟨g,0,none⟩) co off=some ⟨g,off,none⟩:=by
  unfold V.kH
  rw [if_neg (by omega)]
  simp [Addr.add]
  intro e9
  exact e9.symm
 rw [e2]
 exact Fo.cut h h0
theorem xZ {Qx:Exit->Act->World->Prop}{p:Ps}{cl:R.Cl}{dd gg:R.Sl}{r:cU}{ra:Option Addr}{rc:Nat}{y4:World}{bw bc br:Nat}{a1:Option Addr}{e1:Nat}{Q1:List Ev}{a2:Option Addr}{e2:Nat}{a3:Option Addr}{e3:Nat}{Q3:List Ev}
  (hSB:∀U,Below y4.heap.size y4 U->Sb U p bw bc br cl dd gg r ra n rc a1 e1 Q1 a2 e2 a3 e3 Q3) (hsm:p.Small) {H:Hd} {l:List Nat} {ao:Option Addr} {co off:Nat} (hop:cl.op=5) (hof:cl.off=(off:Int)) (hle:off+n<=l.length) (hll:l.length<=1048576) (hco:l.length<=co) (hF:Fl y4 ao (S.aM l)) (hR:Fl y4 ra (S.aM ((l.drop off).take n))) (hP:∀c a d v w,Qx (.panic c) (Act.put a d v) w->Qx (.panic c) a w)
  (hK:∀(w':World),Below y4.heap.size y4 w'->∀(OA OB OC OD OE OF OG OH OI OJ OK OL OM ON OO OQ OS OT OU OV:Value),Qx .normal ⟨List.toArray (bM::kC::KC::KD::KE::KG::KH::.pointer (some ⟨H.kb,0,none⟩)::KJ::KK::.pointer (some ⟨bc,0,none⟩)::.pointer (some ⟨bw,0,none⟩)::.pointer (some ⟨br,0,none⟩)::KO::KP::KQ::.int .i64 (n:Int)::KS::KT::KU::.slice ao l.length co::KW::KX::KY::KZ::K0::K1::K2::K3::K4::K5::K6::K7::K8::K9::K_::La::Lc::Ld::Le::Lf::Lg::Lh::Lj::Lk::Ll::Lm::Ln::Lo::Lp::Lq::Ls::Lt::Lu::Lv::Lw::Lx::Ly::Lz::LA::LB::LC::LD::LF::LG::LH::LI::LJ::LK::LL::LM::LN::LO::LP::LQ::LR::LS::LU::LV::LW::LX::LY::LZ::L3::L5::L6::L7::L8::L9::L_::Ma::Mb::Mc::Md::Me::Mf::Mg::Mh::Mi::Mj::Ml::Mm::Mn::Mo::Mq::Mr::Ms::Mt::Mu::Mv::Mw::Mx::My::Mz::MA::MB::MC::MD::ME::MF::MG::MH::MI::MJ::MK::ML::MM::MN::MO::MP::MQ::MR::MS::MT::MU::MV::MW::MX::MY::MZ::M0::M1::M4::M5::M6::M7::M8::M9::M_::Na::Nb::Nc::Nf::Ng::Nh::Ni::Nj::Nk::Nl::Nm::Nn::No::Np::Nq::Nr::Ns::Nt::Nu::Nv::Nw::Nx::Ny::Nz::NA::NB::NC::ND::NF::NG::NH::NI::NJ::NK::NL::NM::NN::NO::NP::NQ::NR::NS::NT::NU::NV::NW::NX::NY::NZ::N5::N7::N8::N_::Oa::Oc::Od::Oe::Of::Og::Oh::Oi::Oj::Ol::Om::On::Oo::Oq::Ot::Ou::Ov::Ox::Oy::Oz::OA::OB::OC::OD::OE::OF::OG::OH::OI::OJ::OK::OL::OM::ON::OO::OQ::OS::OT::OU::OV::OW::OX::OY::OZ::O0::O1::O2::O3::O4::O5::O6::O7::O8::O9::O_::Pb::Pc::Pd::Pf::Pg::Ph::[]),[]⟩ w') :
  Code.wp prog (rs 17 (kF Tryz.f4.body)) Qx ⟨List.toArray (bM::kC::KC::KD::KE::KG::KH::.pointer (some ⟨H.kb,0,none⟩)::KJ::KK::.pointer (some ⟨bc,0,none⟩)::.pointer (some ⟨bw,0,none⟩)::.pointer (some ⟨br,0,none⟩)::KO::KP::KQ::.int .i64 (n:Int)::KS::KT::KU::.slice ao l.length co::KW::KX::KY::KZ::K0::K1::K2::K3::K4::K5::K6::K7::K8::K9::K_::La::Lc::Ld::Le::Lf::Lg::Lh::Lj::Lk::Ll::Lm::Ln::Lo::Lp::Lq::Ls::Lt::Lu::Lv::Lw::Lx::Ly::Lz::LA::LB::LC::LD::LF::LG::LH::LI::LJ::LK::LL::LM::LN::LO::LP::LQ::LR::LS::LU::LV::LW::LX::LY::LZ::L3::L5::L6::L7::L8::L9::L_::Ma::Mb::Mc::Md::Me::Mf::Mg::Mh::Mi::Mj::Ml::Mm::Mn::Mo::Mq::Mr::Ms::Mt::Mu::Mv::Mw::Mx::My::Mz::MA::MB::MC::MD::ME::MF::MG::MH::MI::MJ::MK::ML::MM::MN::MO::MP::MQ::MR::MS::MT::MU::MV::MW::MX::MY::MZ::M0::M1::M4::M5::M6::M7::M8::M9::M_::Na::Nb::Nc::Nf::Ng::Nh::Ni::Nj::Nk::Nl::Nm::Nn::No::Np::Nq::Nr::Ns::Nt::Nu::Nv::Nw::Nx::Ny::Nz::NA::NB::NC::ND::NF::NG::NH::NI::NJ::NK::NL::NM::NN::NO::NP::NQ::NR::NS::NT::NU::NV::NW::NX::NY::NZ::N5::N7::N8::N_::Oa::Oc::Od::Oe::Of::Og::Oh::Oi::Oj::Ol::Om::On::Oo::Oq::Ot::Ou::Ov::Ox::Oy::Oz::OA::OB::OC::OD::OE::OF::OG::OH::OI::OJ::OK::OL::OM::ON::OO::OQ::OS::OT::OU::OV::OW::OX::OY::OZ::O0::O1::O2::O3::O4::O5::O6::O7::O8::O9::O_::Pb::Pc::Pd::Pf::Pg::Ph::[]),[]⟩ y4:=by
 conv=>arg 2;whnf
 have HSB:=aa hSB
 have HK:=aa hK
 have HPx:=aa hP
 have hln:((l.drop off).take n).length=n:=by simp;omega
 have HSr:Hid (∀U,Below y4.heap.size y4 U->U.cell? ⟨bc,0,none⟩=some (.int .i64 5)/\U.cell? ⟨bc,8,none⟩=some (.int .i64 (off:Int))/\U.cell? ⟨br,4,none⟩=some (.slice ra n rc)):=λU hU=>by
  have g:=hSB U hU
  have x0:=g.call.cell 0 rfl
  have x8:=g.call.cell 8 rfl
  rw [hop] at x0
  rw [hof] at x8
  exact⟨x0,x8,g.rep.cell 4 rfl⟩
 have HSl:Hid (∀U:World,(Instr.sliceAt 39 (.slice ao l.length co) (some (.int .i64 (off:Int))) (some (.int .i64 ((off:Int)+(n:Int)))) none).run prog U=.ok (.slice (kH ao co off) n (co - off)) U):=λU=>by
  have h9:=vJ U ao l.length co off (off+n) (by omega) (by omega)
  rw [Nat.add_sub_cancel_left] at h9
  exact h9
 have HSl2:Hid (∀U:World,(Instr.sliceAt 39 (.slice ao l.length co) (some (.int .i64 (off:Int))) (some (.int .i64 ((off+n:Nat):Int))) none).run prog U=.ok (.slice (kH ao co off) n (co - off)) U):=λU=>by
  have h9:=vJ U ao l.length co off (off+n) (by omega) (by omega)
  rw [Nat.add_sub_cancel_left] at h9
  exact h9
 have hFc:Fo y4 (kH ao co off) (S.aM ((l.drop off).take n)):=Fo.kH hF hle hco
 have HSa:Hid (∀U,Below y4.heap.size y4 U->Calls prog 19 #[.slice ra n rc,.slice (kH ao co off) n (co - off)] U λe w'=>e=.returned (.bool true)/\Below U.heap.size U w'):=λU hU=>by
  have h9:=m9 (w:=U) ((l.drop off).take n) (ca:=rc) (cb:=co - off) (hR.later hU) (hFc.later hU) (by rw [hln];omega)
  rw [hln] at h9
  exact h9
 clear hSB hK hP hop hof hF hR hsm hln hFc
 go_upto_region 46 with fail
 refine wp_region_held_drew (S:=(λU:World=>U.cell? ⟨bc,0,none⟩=some (.int .i64 5)/\U.cell? ⟨bc,8,none⟩=some (.int .i64 (off:Int))/\U.cell? ⟨br,4,none⟩=some (.slice ra n rc))) (by kernel_rfl) (HSr.o _ (Below.refl _ _).drew) (λhHeld=>?_)
 refine nH (bm 17 0) 17 ?_
 refine tH 0 (v:=?_) rfl (λ_ _ _ h=>HPx.o _ _ _ _ _ h) ?_ ?_;rotate_left
 ·(intro w hSw;obtain⟨h1,h2,h3⟩:=hSw;go_simp;try with_reducible rfl)
 try simp only [gz,Act.put]
 refine nH (bm 17 1) 16 ?_
 refine tH 1 (v:=?_) rfl (λ_ _ _ h=>HPx.o _ _ _ _ _ h) ?_ ?_;rotate_left
 ·(intro w hSw;obtain⟨h1,h2,h3⟩:=hSw;go_simp;try with_reducible rfl)
 try simp only [gz,Act.put]
 refine nH (bm 17 3) 15 ?_
 refine tH 2 (v:=?_) rfl (λ_ _ _ h=>HPx.o _ _ _ _ _ h) ?_ ?_;rotate_left
 ·(intro w hSw;obtain⟨h1,h2,h3⟩:=hSw;go_simp;try with_reducible rfl)
 try simp only [gz,Act.put]
 refine nH (bm 17 7) 14 ?_
 refine tH 3 (v:=?_) rfl (λ_ _ _ h=>HPx.o _ _ _ _ _ h) ?_ ?_;rotate_left
 ·(intro w hSw;obtain⟨h1,h2,h3⟩:=hSw;go_simp;try with_reducible rfl)
 try simp only [gz,Act.put]
 refine nH (bm 17 15) 13 ?_
 refine tH 4 (v:=?_) rfl (λ_ _ _ h=>HPx.o _ _ _ _ _ h) ?_ ?_;rotate_left
 ·(intro w hSw;obtain⟨h1,h2,h3⟩:=hSw;go_simp;try with_reducible rfl)
 try simp only [gz,Act.put]
 refine nH (bm 17 31) 12 ?_
 refine tH 5 (v:=?_) rfl (λ_ _ _ h=>HPx.o _ _ _ _ _ h) ?_ ?_;rotate_left
 ·(intro w hSw;obtain⟨h1,h2,h3⟩:=hSw;go_simp;try with_reducible rfl)
 try simp only [gz,Act.put]
 refine nH (bm 17 63) 11 ?_
 refine tH 6 (v:=?_) rfl (λ_ _ _ h=>HPx.o _ _ _ _ _ h) ?_ ?_;rotate_left
 ·(intro w hSw;obtain⟨h1,h2,h3⟩:=hSw;go_simp;try with_reducible rfl)
 try simp only [gz,Act.put]
 refine nH (bm 17 127) 10 ?_
 refine tH 7 (v:=?_) rfl (λ_ _ _ h=>HPx.o _ _ _ _ _ h) ?_ ?_;rotate_left
 ·(intro w hSw;obtain⟨h1,h2,h3⟩:=hSw;go_simp;try with_reducible rfl)
 try simp only [gz,Act.put]
 refine nH (bm 17 255) 9 ?_
 refine tH 8 (v:=?_) rfl (λ_ _ _ h=>HPx.o _ _ _ _ _ h) ?_ ?_;rotate_left
 ·(intro w hSw;obtain⟨h1,h2,h3⟩:=hSw;go_simp;try with_reducible rfl)
 try simp only [gz,Act.put]
 refine nH (bm 17 511) 8 ?_
 refine tH 9 (v:=?_) rfl (λ_ _ _ h=>HPx.o _ _ _ _ _ h) ?_ ?_;rotate_left
 ·(intro w hSw;obtain⟨h1,h2,h3⟩:=hSw;go_simp;try with_reducible rfl)
 try simp only [gz,Act.put]
 refine nH (bm 17 1023) 7 ?_
 refine tH 10 (v:=?_) rfl (λ_ _ _ h=>HPx.o _ _ _ _ _ h) ?_ ?_;rotate_left
 ·(intro w hSw;obtain⟨h1,h2,h3⟩:=hSw;go_simp;try with_reducible rfl)
 try simp only [gz,Act.put]
 refine nH (bm 17 2047) 6 ?_
 refine tH 11 (v:=?_) rfl (λ_ _ _ h=>HPx.o _ _ _ _ _ h) ?_ ?_;rotate_left
 ·(intro w hSw;obtain⟨h1,h2,h3⟩:=hSw;go_simp;try with_reducible rfl)
 try simp only [gz,Act.put]
 refine nH (bm 17 4095) 5 ?_
 refine tH 12 (v:=.int .i64 ((off:Int)+(n:Int))) rfl (λ_ _ _ h=>HPx.o _ _ _ _ _ h) ?_ ?_
 ·(intro w hSw;(try dsimp only at hSw);obtain⟨h1,h2,h3⟩:=hSw;go_simp;rw [IntKind.wrap_i64];omega)
 try simp only [gz,Act.put]
 refine nH (bm 17 8191) 4 ?_
 refine tH 13 (v:=.slice (kH ao co off) n (co - off)) rfl (λ_ _ _ h=>HPx.o _ _ _ _ _ h) ?_ ?_
 ·(intro w hSw;(try dsimp only at hSw);first|exact M.jx rfl rfl rfl rfl rfl (HSl2.o _)|exact M.jx rfl rfl rfl rfl rfl (HSl.o _))
 try simp only [gz,Act.put]
 refine nH (bm 17 16383) 3 ?_
 refine yH [14] ?_
 refine cH rfl λK hK=>?_
 go_simp
 go_wp2_with (first|(go_at_call 19;refine (HSa.o _ (Below.refl _ _).drew).mono ?_;rintro e KC ⟨rfl,hb⟩;have HC2:=aa (al (Below.refl y4.heap.size y4).drew hb);clear hb))
 refine hK.out _ _ (HSr.o _ HC2.o) (λhHeld=>?_)
 clear hK K
 try simp only [gz,Act.put]
 refine nH (bm 17 32767) 2 ?_
 refine tH 15 (v:=?_) rfl (λ_ _ _ h=>HPx.o _ _ _ _ _ h) ?_ ?_;rotate_left
 ·(intro w hSw;obtain⟨h1,h2,h3⟩:=hSw;go_simp;try with_reducible rfl)
 try simp only [gz,Act.put]
 refine nH (bm 17 65535) 1 ?_
 refine tH 16 (v:=?_) rfl (λ_ _ _ h=>HPx.o _ _ _ _ _ h) ?_ ?_;rotate_left
 ·(intro w hSw;obtain⟨h1,h2,h3⟩:=hSw;go_simp;try with_reducible rfl)
 try simp only [gz,Act.put]
 refine nH (bm 17 131071) 0 ?_
 refine wpAnyH_done (by kernel_rfl) ?_ _
 obtain⟨x0,x8,_⟩:=HSr.o _ HC2.o
 go_wp2
 exact HK.o _ HC2.o ..
theorem wO {Qx:Exit->Act->World->Prop}{p':Ps}{cl:R.Cl}{dd gg:R.Sl}{y4:World}{bw bc br:Nat}{a1:Option Addr}{e1:Nat}{Q1:List Ev}{a2:Option Addr}{e2:Nat}{a3:Option Addr}{e3:Nat}{Q3:List Ev}{l:List Nat}{ao:Option Addr}{co off:Nat}{H:Hd}
  (hop:cl.op=6) (hof:cl.off=(off:Int)) (hle:off+cl.data.length<=l.length) (hll:l.length<=1048576) (hO:Own y4 base 5 ao l.length co (S.aM l))
  (hSB:∀U,ae (aD ao) y4 U->R.Bx U bc (R.cC cl dd gg)/\R.Row U dd.a dd.n dd.c cl.data)
  (hW:∀U,ae (aD ao) y4 U->R.Bx U bw (stM a1 p'.O.length e1 a2 p'.T.length e2 a3 p'.P.length e3 p'.nx p'.px p'.t))
  (hSt:∀U,ae (aD ao) y4 U->Calls prog 17 #[.pointer (some ⟨H.kb,0,none⟩)] U (oO U p'))
  (hLk:∀U,Own U base 5 ao l.length co (S.aM (S.bR l cl.data off))->ae (aD ao) y4 U->ng U p' a1 Q1 a2 a3 Q3)
  (hsm:p'.Small) (hP:∀c a d v w,Qx (.panic c) (Act.put a d v) w->Qx (.panic c) a w)
  (hK:∀(w':World),ae (aD ao) y4 w'->∀(KX OA OB OC OD OE OF OG OH OI OJ OK OL OM ON OO OQ OS OT OU OV OW OX OY OZ O0 O1 O2 O3 O4 O5 O6 O7 O8 O9 O_ Pb Pc Pd Pf Pg Ph:Value),Qx .normal ⟨List.toArray (bM::kC::KC::KD::KE::KG::KH::.pointer (some ⟨H.kb,0,none⟩)::KJ::KK::.pointer (some ⟨bc,0,none⟩)::.pointer (some ⟨bw,0,none⟩)::.pointer (some ⟨br,0,none⟩)::KO::KP::KQ::.int .i64 (cl.data.length:Int)::KS::KT::KU::.slice ao l.length co::KW::KX::KY::KZ::K0::K1::K2::K3::K4::K5::K6::K7::K8::K9::K_::La::Lc::Ld::Le::Lf::Lg::Lh::Lj::Lk::Ll::Lm::Ln::Lo::Lp::Lq::Ls::Lt::Lu::Lv::Lw::Lx::Ly::Lz::LA::LB::LC::LD::LF::LG::LH::LI::LJ::LK::LL::LM::LN::LO::LP::LQ::LR::LS::LU::LV::LW::LX::LY::LZ::L3::L5::L6::L7::L8::L9::L_::Ma::Mb::Mc::Md::Me::Mf::Mg::Mh::Mi::Mj::Ml::Mm::Mn::Mo::Mq::Mr::Ms::Mt::Mu::Mv::Mw::Mx::My::Mz::MA::MB::MC::MD::ME::MF::MG::MH::MI::MJ::MK::ML::MM::MN::MO::MP::MQ::MR::MS::MT::MU::MV::MW::MX::MY::MZ::M0::M1::M4::M5::M6::M7::M8::M9::M_::Na::Nb::Nc::Nf::Ng::Nh::Ni::Nj::Nk::Nl::Nm::Nn::No::Np::Nq::Nr::Ns::Nt::Nu::Nv::Nw::Nx::Ny::Nz::NA::NB::NC::ND::NF::NG::NH::NI::NJ::NK::NL::NM::NN::NO::NP::NQ::NR::NS::NT::NU::NV::NW::NX::NY::NZ::N5::N7::N8::N_::Oa::Oc::Od::Oe::Of::Og::Oh::Oi::Oj::Ol::Om::On::Oo::Oq::Ot::Ou::Ov::Ox::Oy::Oz::OA::OB::OC::OD::OE::OF::OG::OH::OI::OJ::OK::OL::OM::ON::OO::OQ::OS::OT::OU::OV::OW::OX::OY::OZ::O0::O1::O2::O3::O4::O5::O6::O7::O8::O9::O_::Pb::Pc::Pd::Pf::Pg::Ph::[]),[]⟩ w') :
  Code.wp prog (rs 17 (kF Tryz.f4.body)) Qx ⟨List.toArray (bM::kC::KC::KD::KE::KG::KH::.pointer (some ⟨H.kb,0,none⟩)::KJ::KK::.pointer (some ⟨bc,0,none⟩)::.pointer (some ⟨bw,0,none⟩)::.pointer (some ⟨br,0,none⟩)::KO::KP::KQ::.int .i64 (cl.data.length:Int)::KS::KT::KU::.slice ao l.length co::KW::KX::KY::KZ::K0::K1::K2::K3::K4::K5::K6::K7::K8::K9::K_::La::Lc::Ld::Le::Lf::Lg::Lh::Lj::Lk::Ll::Lm::Ln::Lo::Lp::Lq::Ls::Lt::Lu::Lv::Lw::Lx::Ly::Lz::LA::LB::LC::LD::LF::LG::LH::LI::LJ::LK::LL::LM::LN::LO::LP::LQ::LR::LS::LU::LV::LW::LX::LY::LZ::L3::L5::L6::L7::L8::L9::L_::Ma::Mb::Mc::Md::Me::Mf::Mg::Mh::Mi::Mj::Ml::Mm::Mn::Mo::Mq::Mr::Ms::Mt::Mu::Mv::Mw::Mx::My::Mz::MA::MB::MC::MD::ME::MF::MG::MH::MI::MJ::MK::ML::MM::MN::MO::MP::MQ::MR::MS::MT::MU::MV::MW::MX::MY::MZ::M0::M1::M4::M5::M6::M7::M8::M9::M_::Na::Nb::Nc::Nf::Ng::Nh::Ni::Nj::Nk::Nl::Nm::Nn::No::Np::Nq::Nr::Ns::Nt::Nu::Nv::Nw::Nx::Ny::Nz::NA::NB::NC::ND::NF::NG::NH::NI::NJ::NK::NL::NM::NN::NO::NP::NQ::NR::NS::NT::NU::NV::NW::NX::NY::NZ::N5::N7::N8::N_::Oa::Oc::Od::Oe::Of::Og::Oh::Oi::Oj::Ol::Om::On::Oo::Oq::Ot::Ou::Ov::Ox::Oy::Oz::OA::OB::OC::OD::OE::OF::OG::OH::OI::OJ::OK::OL::OM::ON::OO::OQ::OS::OT::OU::OV::OW::OX::OY::OZ::O0::O1::O2::O3::O4::O5::O6::O7::O8::O9::O_::Pb::Pc::Pd::Pf::Pg::Ph::[]),[]⟩ y4:=by
 conv=>arg 2;whnf
 have HOp:=aa hop
 have HOf:=aa hof
 have HLe:=aa hle
 have HLl:=aa hll
 have HO:=aa hO
 have HSB:=aa hSB
 have HW:=aa hW
 have HSt:=aa hSt
 have HLk:=aa hLk
 have HSm:=aa hsm
 have HPx:=aa hP
 have HK:=aa hK
 have HX0:Hid (∀U,ae (aD ao) y4 U->U.cell? ⟨bc,0,none⟩=some (.int .i64 6)):=λU hU=>by
  have h:=(hSB U hU).1.cell 0 rfl
  rw [hop] at h
  exact h
 clear hop hof hle hll hO hSB hW hSt hLk hsm hP hK
 go_upto_region 46 with fail
 refine wp_region_held_drew (S:=(λU:World=>U.cell? ⟨bc,0,none⟩=some (.int .i64 6))) (by kernel_rfl) (HX0.o _ (ae.of (Below.refl _ _).drew)) (λhHeld=>?_)
 refine nH (bm 17 0) 17 ?_
 refine tH 0 (v:=?_) rfl (λ_ _ _ h=>HPx.o _ _ _ _ _ h) ?_ ?_;rotate_left
 ·(intro w hSw;have h1:=hSw;go_simp;try with_reducible rfl)
 try simp only [gz,Act.put]
 refine nH (bm 17 1) 16 ?_
 refine tH 1 (v:=?_) rfl (λ_ _ _ h=>HPx.o _ _ _ _ _ h) ?_ ?_;rotate_left
 ·(intro w hSw;have h1:=hSw;go_simp;try with_reducible rfl)
 try simp only [gz,Act.put]
 refine nH (bm 17 3) 15 ?_
 refine tH 2 (v:=?_) rfl (λ_ _ _ h=>HPx.o _ _ _ _ _ h) ?_ ?_;rotate_left
 ·(intro w hSw;have h1:=hSw;go_simp;try with_reducible rfl)
 try simp only [gz,Act.put]
 refine nH (bm 17 7) 14 ?_
 refine tH 3 (v:=?_) rfl (λ_ _ _ h=>HPx.o _ _ _ _ _ h) ?_ ?_;rotate_left
 ·(intro w hSw;have h1:=hSw;go_simp;try with_reducible rfl)
 try simp only [gz,Act.put]
 refine nH (bm 17 15) 13 ?_
 refine wpAnyH_take (i:=4) (oi:=_) (v:=undef) rfl (by kernel_rfl) (by kernel_rfl) (by kernel_rfl) (λ_ _ _ h=>HPx.o _ _ _ _ _ h) (Or.inr ⟨by rfl,rfl⟩) (by assumption) ?_
 try simp only [gz,Act.put]
 refine nH (bm 17 31) 12 ?_
 refine wpAnyH_take (i:=5) (oi:=_) (v:=undef) rfl (by kernel_rfl) (by kernel_rfl) (by kernel_rfl) (λ_ _ _ h=>HPx.o _ _ _ _ _ h) (Or.inr ⟨by rfl,rfl⟩) (by assumption) ?_
 try simp only [gz,Act.put]
 refine nH (bm 17 63) 11 ?_
 refine wpAnyH_take (i:=6) (oi:=_) (v:=undef) rfl (by kernel_rfl) (by kernel_rfl) (by kernel_rfl) (λ_ _ _ h=>HPx.o _ _ _ _ _ h) (Or.inr ⟨by rfl,rfl⟩) (by assumption) ?_
 try simp only [gz,Act.put]
 refine nH (bm 17 127) 10 ?_
 refine wpAnyH_take (i:=7) (oi:=_) (v:=undef) rfl (by kernel_rfl) (by kernel_rfl) (by kernel_rfl) (λ_ _ _ h=>HPx.o _ _ _ _ _ h) (Or.inr ⟨by rfl,rfl⟩) (by assumption) ?_
 try simp only [gz,Act.put]
 refine nH (bm 17 255) 9 ?_
 refine wpAnyH_take (i:=8) (oi:=_) (v:=undef) rfl (by kernel_rfl) (by kernel_rfl) (by kernel_rfl) (λ_ _ _ h=>HPx.o _ _ _ _ _ h) (Or.inr ⟨by rfl,rfl⟩) (by assumption) ?_
 try simp only [gz,Act.put]
 refine nH (bm 17 511) 8 ?_
 refine wpAnyH_take (i:=9) (oi:=_) (v:=undef) rfl (by kernel_rfl) (by kernel_rfl) (by kernel_rfl) (λ_ _ _ h=>HPx.o _ _ _ _ _ h) (Or.inr ⟨by rfl,rfl⟩) (by assumption) ?_
 try simp only [gz,Act.put]
 refine nH (bm 17 1023) 7 ?_
 refine wpAnyH_take (i:=10) (oi:=_) (v:=undef) rfl (by kernel_rfl) (by kernel_rfl) (by kernel_rfl) (λ_ _ _ h=>HPx.o _ _ _ _ _ h) (Or.inr ⟨by rfl,rfl⟩) (by assumption) ?_
 try simp only [gz,Act.put]
 refine nH (bm 17 2047) 6 ?_
 refine wpAnyH_take (i:=11) (oi:=_) (v:=undef) rfl (by kernel_rfl) (by kernel_rfl) (by kernel_rfl) (λ_ _ _ h=>HPx.o _ _ _ _ _ h) (Or.inr ⟨by rfl,rfl⟩) (by assumption) ?_
 try simp only [gz,Act.put]
 refine nH (bm 17 4095) 5 ?_
 refine wpAnyH_take (i:=12) (oi:=_) (v:=undef) rfl (by kernel_rfl) (by kernel_rfl) (by kernel_rfl) (λ_ _ _ h=>HPx.o _ _ _ _ _ h) (Or.inr ⟨by rfl,rfl⟩) (by assumption) ?_
 try simp only [gz,Act.put]
 refine nH (bm 17 8191) 4 ?_
 refine wpAnyH_take (i:=13) (oi:=_) (v:=undef) rfl (by kernel_rfl) (by kernel_rfl) (by kernel_rfl) (λ_ _ _ h=>HPx.o _ _ _ _ _ h) (Or.inr ⟨by rfl,rfl⟩) (by assumption) ?_
 try simp only [gz,Act.put]
 refine nH (bm 17 16383) 3 ?_
 refine wpAnyH_take (i:=14) (oi:=_) (v:=undef) rfl (by kernel_rfl) (by kernel_rfl) (by kernel_rfl) (λ_ _ _ h=>HPx.o _ _ _ _ _ h) (Or.inr ⟨by rfl,rfl⟩) (by assumption) ?_
 try simp only [gz,Act.put]
 refine nH (bm 17 32767) 2 ?_
 refine wpAnyH_take (i:=15) (oi:=_) (v:=undef) rfl (by kernel_rfl) (by kernel_rfl) (by kernel_rfl) (λ_ _ _ h=>HPx.o _ _ _ _ _ h) (Or.inr ⟨by rfl,rfl⟩) (by assumption) ?_
 try simp only [gz,Act.put]
 refine nH (bm 17 65535) 1 ?_
 refine tH 16 (v:=?_) rfl (λ_ _ _ h=>HPx.o _ _ _ _ _ h) ?_ ?_;rotate_left
 ·(intro w hSw;have h1:=hSw;go_simp;try with_reducible rfl)
 try simp only [gz,Act.put]
 refine nH (bm 17 131071) 0 ?_
 refine wpAnyH_done (by kernel_rfl) ?_ _
 obtain⟨W0,hW0⟩:∃W0,W0=y4.drew:=⟨_,rfl⟩
 rw [<-hW0]
 have HB0:Hid (Below y4.heap.size y4 W0):=by rw [hW0];exact (Below.refl _ _).drew
 have x0:=HX0.o W0 (ae.of HB0.o)
 clear hW0
 go_upto_block 10 with fail
 clear x0
 go_cut [22] from 242 to 257 (λ_ U=>Hid (Own U base 5 ao l.length co (S.aM (S.bR l cl.data off)))/\Hid (ae (aD ao) y4 U))
 case first =>
  refine sP (HO.o.later HB0.o) HOf.o HLe.o HLl.o (λU hU=>HSB.o U ((ae.of HB0.o).trans hU)) HPx.o ?_
  rintro w9 ⟨hO9,hB9⟩
  intros
  go_wp2
  go_meet
  exact⟨hO9,(ae.of HB0.o).trans hB9⟩
 case rest =>
  obtain⟨HO9,HB9⟩:=hcut
  have HSx:Hid (∀U,Below wc.heap.size wc U->R.Bx U bw (stM a1 p'.O.length e1 a2 p'.T.length e2 a3 p'.P.length e3 p'.nx p'.px p'.t)):=λU hU=>HW.o U (HB9.o.call hU)
  have HSt2:=aa (HSt.o _ (HB9.o.call (Below.refl _ _).drew))
  have HLn:Hid (∀U,Below wc.heap.size wc U->ng U p' a1 Q1 a2 a3 Q3):=λU hU=>(HLk.o wc HO9.o HB9.o).later hU
  clear HO HSB HW HSt HLk HX0 HB0 HO9
  go_upto_region 53 with fail
  refine wp_region_held_drew (S:=(λU:World=>R.Bx U bw (stM a1 p'.O.length e1 a2 p'.T.length e2 a3 p'.P.length e3 p'.nx p'.px p'.t))) (by kernel_rfl) (HSx.o _ (Below.refl _ _).drew) (λhHeld=>?_)
  refine nH (bm 5 0) 5 ?_
  refine tH 0 (v:=Eb a1 p'.O.length e1 a2 p'.T.length e2 a3 p'.P.length e3 p'.nx p'.px p'.t) rfl (λ_ _ _ h=>HPx.o _ _ _ _ _ h) ?_ ?_
  ·(intro w hSw;(try dsimp only at hSw);exact K.eI rfl rfl (Kf hSw))
  try simp only [gz,Act.put]
  refine nH (bm 5 1) 4 ?_
  refine tH 1 (v:=?_) rfl (λ_ _ _ h=>HPx.o _ _ _ _ _ h) ?_ ?_;rotate_left
  ·(intro w hSw;skip;go_simp;try with_reducible rfl)
  try simp only [gz,Act.put]
  refine nH (bm 5 3) 3 ?_
  refine yH [2] ?_
  refine cH rfl λK hK=>?_
  go_simp
  go_wp2_with (first|(go_at_call 17;refine HSt2.o.mono ?_;rintro e z1 ⟨d1,g1,S1,d2,g2,d3,g3,S3,rfl,hT,hb⟩;have HZ1:Hid (Below wc.heap.size wc z1):=al (Below.refl _ _).drew hb;have HSs:=aa (pC (w:=z1) p' (c1:=e1) (c2:=e2) (c3:=e3) (d1:=g1) (d2:=g2) (d3:=g3) (HLn.o z1 HZ1.o) hT.look HSm.o);clear hT hb))
  refine hK.out _ _ (HSx.o _ HZ1.o) (λhHeld=>?_)
  clear hK K
  try simp only [gz,Act.put]
  refine nH (bm 5 7) 2 ?_
  refine yH [3] ?_
  refine cH rfl λK hK=>?_
  go_simp
  go_wp2_with (first|(go_at_call 16;refine HSs.o.mono ?_;rintro e z2 ⟨rfl,hb⟩;have HZ2:Hid (Below wc.heap.size wc z2):=al HZ1.o hb;clear hb))
  refine hK.out _ _ (HSx.o _ HZ2.o) (λhHeld=>?_)
  clear hK K
  try simp only [gz,Act.put]
  refine nH (bm 5 15) 1 ?_
  refine tH 4 (v:=?_) rfl (λ_ _ _ h=>HPx.o _ _ _ _ _ h) ?_ ?_;rotate_left
  ·(intro w hSw;skip;go_simp;try with_reducible rfl)
  try simp only [gz,Act.put]
  refine nH (bm 5 31) 0 ?_
  refine wpAnyH_done (by kernel_rfl) ?_ _
  go_wp2
  exact HK.o _ (HB9.o.call HZ2.o) ..
theorem Cy {p:Ps}(h:p.Small)(c:R.Cl):(kx c p).length<=1048576:=by
 unfold kx
 split
 ·simp
 ·have key:∀(O:List (Int×List Cp)) (K:List Cp),(∀v∈O,v.2.length<=1048576)->K.length<=1048576->(O.foldl (λK q=>if q.1=c.au then q.2 else K) K).length<=1048576:=by
   intro O
   induction O with
   | nil=>intro K _ h;exact h
   | cons v r ih =>
    intro K hl h
    simp only [List.foldl_cons]
    refine ih _ (λx hx=>hl x (List.mem_cons_of_mem _ hx)) ?_
    split
    ·exact hl v (List.mem_cons_self ..)
    ·exact h
  exact key p.P [] h.pe (Nat.zero_le _)
theorem xC {Qx:Exit->Act->World->Prop}{p:Ps}{cl:R.Cl}{dd gg:R.Sl}{r:cU}{ra:Option Addr}{rn rc:Nat}{y4:World}{bw bc br:Nat}{a1:Option Addr}{e1:Nat}{Q1:List Ev}{a2:Option Addr}{e2:Nat}{a3:Option Addr}{e3:Nat}{Q3:List Ev}
  (hSB:∀U,Below y4.heap.size y4 U->Sb U p bw bc br cl dd gg r ra rn rc a1 e1 Q1 a2 e2 a3 e3 Q3) (hsm:p.Small) {H:Hd} {base:Nat} (hop:cl.op=5) (hdn:dd.n=cl.data.length) (hT:df y4 base p a1 e1 Q1 a2 e2 a3 e3 Q3)
  (hno:dL cl.obj 1 p.T (kx cl p)=false->r.code=3\/r.code=4)
  (hyes:dL cl.obj 1 p.T (kx cl p)=true->∃l,(cl.obj,l)∈p.O/\aN cl.obj p.O=l/\r.code=(if dA cl.off cl.n (aN cl.obj p.O).length then 5 else 0)/\(r.code=0->r.data=(l.drop cl.off.toNat).take cl.n.toNat))
  (hP:∀c a d v w,Qx (.panic c) (Act.put a d v) w->Qx (.panic c) a w) (hRa:Fl y4 ra (S.aM r.data)) (hRn:r.data.length=rn) (hnb:-9223372036854775808<=cl.n/\cl.n<=9223372036854775807)
  (hK:∀(w':World),Below y4.heap.size y4 w'->∀(KO KP KQ KR KS KT KU KV KW KX LW LX LY LZ L3 L5 L6 L7 L8 L9 L_ Ma Mb Mc Md Me Mf Mg Mh Mi Mj Ml Mm Mn Mo Mq Mr Ms Mt Mu Mv Mw Mx My Mz MA MB MC MD ME MF MG MH MI MJ MK ML MM MN MO MP MQ MR MS MT MU MV MW MX MY MZ M0 M1 M4 M5 M6 M7 M8 M9 M_ Na Nb Nc Nf Ng Nh Ni Nj Nk Nl Nm Nn No Np Nq Nr Ns Nt Nu Nv Nw Nx Ny Nz NA NB NC ND NF NG NH NI NJ NK NL NM NN NO NP NQ NR NS NT NU NV NW NX NY NZ N5 N7 N8 N_ Oa Oc Od Oe Of Og Oh Oi Oj Ol Om On Oo Oq Ot Ou Ov Ox Oy Oz OA OB OC OD OE OF OG OH OI OJ OK OL OM ON OO OQ OS OT OU OV OW OX OY OZ O0 O1 O2 O3 O4 O5 O6 O7 O8 O9 O_ Pb Pc Pd Pf Pg Ph:Value),Qx .normal ⟨List.toArray (bM::kC::KC::KD::KE::KG::KH::.pointer (some ⟨H.kb,0,none⟩)::KJ::KK::.pointer (some ⟨bc,0,none⟩)::.pointer (some ⟨bw,0,none⟩)::.pointer (some ⟨br,0,none⟩)::KO::KP::KQ::KR::KS::KT::KU::KV::KW::KX::KY::KZ::K0::K1::K2::K3::K4::K5::K6::K7::K8::K9::K_::La::Lc::Ld::Le::Lf::Lg::Lh::Lj::Lk::Ll::Lm::Ln::Lo::Lp::Lq::Ls::Lt::Lu::Lv::Lw::Lx::Ly::Lz::LA::LB::LC::LD::LF::LG::LH::LI::LJ::LK::LL::LM::LN::LO::LP::LQ::LR::LS::LU::LV::LW::LX::LY::LZ::L3::L5::L6::L7::L8::L9::L_::Ma::Mb::Mc::Md::Me::Mf::Mg::Mh::Mi::Mj::Ml::Mm::Mn::Mo::Mq::Mr::Ms::Mt::Mu::Mv::Mw::Mx::My::Mz::MA::MB::MC::MD::ME::MF::MG::MH::MI::MJ::MK::ML::MM::MN::MO::MP::MQ::MR::MS::MT::MU::MV::MW::MX::MY::MZ::M0::M1::M4::M5::M6::M7::M8::M9::M_::Na::Nb::Nc::Nf::Ng::Nh::Ni::Nj::Nk::Nl::Nm::Nn::No::Np::Nq::Nr::Ns::Nt::Nu::Nv::Nw::Nx::Ny::Nz::NA::NB::NC::ND::NF::NG::NH::NI::NJ::NK::NL::NM::NN::NO::NP::NQ::NR::NS::NT::NU::NV::NW::NX::NY::NZ::N5::N7::N8::N_::Oa::Oc::Od::Oe::Of::Og::Oh::Oi::Oj::Ol::Om::On::Oo::Oq::Ot::Ou::Ov::Ox::Oy::Oz::OA::OB::OC::OD::OE::OF::OG::OH::OI::OJ::OK::OL::OM::ON::OO::OQ::OS::OT::OU::OV::OW::OX::OY::OZ::O0::O1::O2::O3::O4::O5::O6::O7::O8::O9::O_::Pb::Pc::Pd::Pf::Pg::Ph::[]),[]⟩ w'/\Qx (.exit 1) ⟨List.toArray (bM::kC::KC::KD::KE::KG::KH::.pointer (some ⟨H.kb,0,none⟩)::KJ::KK::.pointer (some ⟨bc,0,none⟩)::.pointer (some ⟨bw,0,none⟩)::.pointer (some ⟨br,0,none⟩)::KO::KP::KQ::KR::KS::KT::KU::KV::KW::KX::KY::KZ::K0::K1::K2::K3::K4::K5::K6::K7::K8::K9::K_::La::Lc::Ld::Le::Lf::Lg::Lh::Lj::Lk::Ll::Lm::Ln::Lo::Lp::Lq::Ls::Lt::Lu::Lv::Lw::Lx::Ly::Lz::LA::LB::LC::LD::LF::LG::LH::LI::LJ::LK::LL::LM::LN::LO::LP::LQ::LR::LS::LU::LV::LW::LX::LY::LZ::L3::L5::L6::L7::L8::L9::L_::Ma::Mb::Mc::Md::Me::Mf::Mg::Mh::Mi::Mj::Ml::Mm::Mn::Mo::Mq::Mr::Ms::Mt::Mu::Mv::Mw::Mx::My::Mz::MA::MB::MC::MD::ME::MF::MG::MH::MI::MJ::MK::ML::MM::MN::MO::MP::MQ::MR::MS::MT::MU::MV::MW::MX::MY::MZ::M0::M1::M4::M5::M6::M7::M8::M9::M_::Na::Nb::Nc::Nf::Ng::Nh::Ni::Nj::Nk::Nl::Nm::Nn::No::Np::Nq::Nr::Ns::Nt::Nu::Nv::Nw::Nx::Ny::Nz::NA::NB::NC::ND::NF::NG::NH::NI::NJ::NK::NL::NM::NN::NO::NP::NQ::NR::NS::NT::NU::NV::NW::NX::NY::NZ::N5::N7::N8::N_::Oa::Oc::Od::Oe::Of::Og::Oh::Oi::Oj::Ol::Om::On::Oo::Oq::Ot::Ou::Ov::Ox::Oy::Oz::OA::OB::OC::OD::OE::OF::OG::OH::OI::OJ::OK::OL::OM::ON::OO::OQ::OS::OT::OU::OV::OW::OX::OY::OZ::O0::O1::O2::O3::O4::O5::O6::O7::O8::O9::O_::Pb::Pc::Pd::Pf::Pg::Ph::[]),[]⟩ w') :
  Code.wp prog (rs 4 (kF Tryz.f4.body)) Qx ⟨List.toArray (bM::kC::KC::KD::KE::KG::KH::.pointer (some ⟨H.kb,0,none⟩)::KJ::KK::.pointer (some ⟨bc,0,none⟩)::.pointer (some ⟨bw,0,none⟩)::.pointer (some ⟨br,0,none⟩)::KO::KP::KQ::KR::KS::KT::KU::KV::KW::KX::KY::KZ::K0::K1::K2::K3::K4::K5::K6::K7::K8::K9::K_::La::Lc::Ld::Le::Lf::Lg::Lh::Lj::Lk::Ll::Lm::Ln::Lo::Lp::Lq::Ls::Lt::Lu::Lv::Lw::Lx::Ly::Lz::LA::LB::LC::LD::LF::LG::LH::LI::LJ::LK::LL::LM::LN::LO::LP::LQ::LR::LS::LU::LV::LW::LX::LY::LZ::L3::L5::L6::L7::L8::L9::L_::Ma::Mb::Mc::Md::Me::Mf::Mg::Mh::Mi::Mj::Ml::Mm::Mn::Mo::Mq::Mr::Ms::Mt::Mu::Mv::Mw::Mx::My::Mz::MA::MB::MC::MD::ME::MF::MG::MH::MI::MJ::MK::ML::MM::MN::MO::MP::MQ::MR::MS::MT::MU::MV::MW::MX::MY::MZ::M0::M1::M4::M5::M6::M7::M8::M9::M_::Na::Nb::Nc::Nf::Ng::Nh::Ni::Nj::Nk::Nl::Nm::Nn::No::Np::Nq::Nr::Ns::Nt::Nu::Nv::Nw::Nx::Ny::Nz::NA::NB::NC::ND::NF::NG::NH::NI::NJ::NK::NL::NM::NN::NO::NP::NQ::NR::NS::NT::NU::NV::NW::NX::NY::NZ::N5::N7::N8::N_::Oa::Oc::Od::Oe::Of::Og::Oh::Oi::Oj::Ol::Om::On::Oo::Oq::Ot::Ou::Ov::Ox::Oy::Oz::OA::OB::OC::OD::OE::OF::OG::OH::OI::OJ::OK::OL::OM::ON::OO::OQ::OS::OT::OU::OV::OW::OX::OY::OZ::O0::O1::O2::O3::O4::O5::O6::O7::O8::O9::O_::Pb::Pc::Pd::Pf::Pg::Ph::[]),[]⟩ y4:=by
 conv=>arg 2;whnf
 have HSB:=aa hSB
 have HSm:=aa hsm
 have HOp:=aa hop
 have HDn:=aa hdn
 have HT:=aa hT
 have HNo:=aa hno
 have HYes:=aa hyes
 have HPx:=aa hP
 have HK:=aa hK
 have HRa:=aa hRa
 have HRn:=aa hRn
 have HNb:=aa hnb
 clear hSB hsm hop hdn hT hno hyes hP hK hRa hRn hnb
 refine k_ HSB.o HSm.o (.inl HOp.o) HDn.o ?_
 rintro a cap need nn w9 ⟨hF9,hB9,hc9⟩
 obtain⟨rfl,rfl⟩:need=1/\nn=cl.n:=by
  have:=HOp.o
  rcases hc9 with ⟨h1,h2,h3⟩|⟨h1,h2,h3⟩
  ·exact⟨h2,h3⟩
  ·omega
 have HF9:=aa hF9
 have HB9:=aa hB9
 clear hF9 hB9 hc9
 intros
 refine nR (λU hU=>HSB.o U (al HB9.o hU)) HSm.o (Cy HSm.o cl) HF9.o HNo.o (λhz=>(HYes.o hz).choose_spec.2.2.1) (vc HSm.o.oe) HNb.o ?_ ?_
 ·intro hz hc hrg ao co w8 hf8
  obtain⟨hf8,hb8⟩:=hf8
  obtain⟨l,hl1,hl3,-,hdat0⟩:=HYes.o hz
  rw [hl3] at hrg hf8
  have hrange:0<=cl.off/\0<=cl.n/\cl.n<=1024/\cl.off+cl.n<=(l.length:Int):=by
   unfold dA at hrg
   simp at hrg
   omega
  obtain⟨ev,hev,hid0,hea,hel,hec,hevs⟩:∃e∈Q1,e.id=cl.obj/\e.a=ao/\e.len=l.length/\e.cap=co/\e.vs=S.aM l:=by
   rcases hf8 with ⟨_,_,h⟩|h
   ·exact absurd rfl (h (cl.obj,l) hl1)
   ·exact h
  have hOw:Own y4 base 5 ao l.length co (S.aM l):=by
   have h9:=HT.o.os.each ev hev
   rw [hea,hel,hec,hevs] at h9
   exact⟨h9,λu hu=>by obtain⟨x,_,rfl⟩:=List.mem_map.1 hu;rfl⟩
  have hll:l.length<=1048576:=HSm.o.oe (cl.obj,l) hl1
  obtain⟨off,hof⟩:∃off:Nat,cl.off=(off:Int):=⟨cl.off.toNat,by omega⟩
  have HZ8:Hid (Below y4.heap.size y4 w8):=al HB9.o hb8
  have HOw:=aa hOw
  have HOf:=aa hof
  have HLl:=aa hll
  have hdat:r.data=(l.drop off).take cl.n.toNat:=by
   have h9:=hdat0 hc
   rw [hof,Int.toNat_natCast] at h9
   exact h9
  obtain⟨n1,hn1⟩:∃n1:Nat,cl.n=(n1:Int):=⟨cl.n.toNat,by omega⟩
  have hle:off+n1<=l.length:=by omega
  rw [hn1,Int.toNat_natCast] at hdat
  have hrn:rn=n1:=by
   rw [<-HRn.o,hdat]
   simp
   omega
  have HR8:Hid (Fl w8 ra (S.aM ((l.drop off).take n1))):=by
   have h9:=HRa.o.later HZ8.o
   rw [hdat] at h9
   exact h9
  have HLe:=aa hle
  have HSB2:=HSB
  rw [hrn] at HSB2
  intros
  rw [hl3,hn1]
  clear hf8 hrange hev hid0 hea hel hec hevs hOw hll hof hl1 hl3 hdat0 hdat hn1 hle hrn hc hrg hz
  refine xZ (λU hU=>HSB2.o U (al HZ8.o hU)) HSm.o HOp.o HOf.o HLe.o HLl.o HOw.o.read.cap_ (Fl.own (HOw.o.later HZ8.o)) HR8.o HPx.o ?_
  intro w7 hb7
  have HB7:=aa hb7
  clear hb7
  intros
  exact (HK.o _ (al HZ8.o HB7.o) ..).1
 ·intro w8 hb8
  have HB8:=aa hb8
  clear hb8
  intros
  exact (HK.o _ (al HB9.o HB8.o) ..).2
theorem BF {Qx:Exit->Act->World->Prop}{p:Ps}{cl:R.Cl}{dd gg:R.Sl}{r:cU}{ra:Option Addr}{rn rc:Nat}{y4:World}{bw bc br:Nat}{a1:Option Addr}{e1:Nat}{Q1:List Ev}{a2:Option Addr}{e2:Nat}{a3:Option Addr}{e3:Nat}{Q3:List Ev}
  (hSB:∀U,Below y4.heap.size y4 U->Sb U p bw bc br cl dd gg r ra rn rc a1 e1 Q1 a2 e2 a3 e3 Q3) (hsm:p.Small) {H:Hd} {base:Nat} (hop:cl.op=6) (hdn:dd.n=cl.data.length) (hT:df y4 base p a1 e1 Q1 a2 e2 a3 e3 Q3)
  (hno:dL cl.obj 2 p.T (kx cl p)=false->r.code=3\/r.code=4)
  (hyes:dL cl.obj 2 p.T (kx cl p)=true->∃l,(cl.obj,l)∈p.O/\aN cl.obj p.O=l/\r.code=(if dA cl.off (cl.data.length:Int) (aN cl.obj p.O).length then 5 else 0))
  (hP:∀c a d v w,Qx (.panic c) (Act.put a d v) w->Qx (.panic c) a w) {xe:Nat} (hdl:cl.data.length<=1025) (hrp:p.O.Pairwise (λa b=>a.1<b.1)) (hX:∀k,ed.B a1 Q1 k->k<xe) (hbc:bc<base) (hbw:xe<=bw)
  (hrow:∀ao U,(∀k,aD ao k->base<=k/\k<xe)->ae (aD ao) y4 U->R.Row U dd.a dd.n dd.c cl.data)
  (hst:∀ao U (off:Nat),(∀k,aD ao k->base<=k/\k<xe)->ae (aD ao) y4 U->r.code=0->cl.off=(off:Int)->Calls prog 17 #[.pointer (some ⟨H.kb,0,none⟩)] U (oO U (pw p cl.obj off cl.data)))
  (hK:∀(w':World),(∃ao,(∀k,aD ao k->base<=k/\k<xe)/\ae (aD ao) y4 w')->∀(KO KP KQ KR KS KT KU KV KW KX LW LX LY LZ L3 L5 L6 L7 L8 L9 L_ Ma Mb Mc Md Me Mf Mg Mh Mi Mj Ml Mm Mn Mo Mq Mr Ms Mt Mu Mv Mw Mx My Mz MA MB MC MD ME MF MG MH MI MJ MK ML MM MN MO MP MQ MR MS MT MU MV MW MX MY MZ M0 M1 M4 M5 M6 M7 M8 M9 M_ Na Nb Nc Nf Ng Nh Ni Nj Nk Nl Nm Nn No Np Nq Nr Ns Nt Nu Nv Nw Nx Ny Nz NA NB NC ND NF NG NH NI NJ NK NL NM NN NO NP NQ NR NS NT NU NV NW NX NY NZ N5 N7 N8 N_ Oa Oc Od Oe Of Og Oh Oi Oj Ol Om On Oo Oq Ot Ou Ov Ox Oy Oz OA OB OC OD OE OF OG OH OI OJ OK OL OM ON OO OQ OS OT OU OV OW OX OY OZ O0 O1 O2 O3 O4 O5 O6 O7 O8 O9 O_ Pb Pc Pd Pf Pg Ph:Value),Qx .normal ⟨List.toArray (bM::kC::KC::KD::KE::KG::KH::.pointer (some ⟨H.kb,0,none⟩)::KJ::KK::.pointer (some ⟨bc,0,none⟩)::.pointer (some ⟨bw,0,none⟩)::.pointer (some ⟨br,0,none⟩)::KO::KP::KQ::KR::KS::KT::KU::KV::KW::KX::KY::KZ::K0::K1::K2::K3::K4::K5::K6::K7::K8::K9::K_::La::Lc::Ld::Le::Lf::Lg::Lh::Lj::Lk::Ll::Lm::Ln::Lo::Lp::Lq::Ls::Lt::Lu::Lv::Lw::Lx::Ly::Lz::LA::LB::LC::LD::LF::LG::LH::LI::LJ::LK::LL::LM::LN::LO::LP::LQ::LR::LS::LU::LV::LW::LX::LY::LZ::L3::L5::L6::L7::L8::L9::L_::Ma::Mb::Mc::Md::Me::Mf::Mg::Mh::Mi::Mj::Ml::Mm::Mn::Mo::Mq::Mr::Ms::Mt::Mu::Mv::Mw::Mx::My::Mz::MA::MB::MC::MD::ME::MF::MG::MH::MI::MJ::MK::ML::MM::MN::MO::MP::MQ::MR::MS::MT::MU::MV::MW::MX::MY::MZ::M0::M1::M4::M5::M6::M7::M8::M9::M_::Na::Nb::Nc::Nf::Ng::Nh::Ni::Nj::Nk::Nl::Nm::Nn::No::Np::Nq::Nr::Ns::Nt::Nu::Nv::Nw::Nx::Ny::Nz::NA::NB::NC::ND::NF::NG::NH::NI::NJ::NK::NL::NM::NN::NO::NP::NQ::NR::NS::NT::NU::NV::NW::NX::NY::NZ::N5::N7::N8::N_::Oa::Oc::Od::Oe::Of::Og::Oh::Oi::Oj::Ol::Om::On::Oo::Oq::Ot::Ou::Ov::Ox::Oy::Oz::OA::OB::OC::OD::OE::OF::OG::OH::OI::OJ::OK::OL::OM::ON::OO::OQ::OS::OT::OU::OV::OW::OX::OY::OZ::O0::O1::O2::O3::O4::O5::O6::O7::O8::O9::O_::Pb::Pc::Pd::Pf::Pg::Ph::[]),[]⟩ w'/\Qx (.exit 1) ⟨List.toArray (bM::kC::KC::KD::KE::KG::KH::.pointer (some ⟨H.kb,0,none⟩)::KJ::KK::.pointer (some ⟨bc,0,none⟩)::.pointer (some ⟨bw,0,none⟩)::.pointer (some ⟨br,0,none⟩)::KO::KP::KQ::KR::KS::KT::KU::KV::KW::KX::KY::KZ::K0::K1::K2::K3::K4::K5::K6::K7::K8::K9::K_::La::Lc::Ld::Le::Lf::Lg::Lh::Lj::Lk::Ll::Lm::Ln::Lo::Lp::Lq::Ls::Lt::Lu::Lv::Lw::Lx::Ly::Lz::LA::LB::LC::LD::LF::LG::LH::LI::LJ::LK::LL::LM::LN::LO::LP::LQ::LR::LS::LU::LV::LW::LX::LY::LZ::L3::L5::L6::L7::L8::L9::L_::Ma::Mb::Mc::Md::Me::Mf::Mg::Mh::Mi::Mj::Ml::Mm::Mn::Mo::Mq::Mr::Ms::Mt::Mu::Mv::Mw::Mx::My::Mz::MA::MB::MC::MD::ME::MF::MG::MH::MI::MJ::MK::ML::MM::MN::MO::MP::MQ::MR::MS::MT::MU::MV::MW::MX::MY::MZ::M0::M1::M4::M5::M6::M7::M8::M9::M_::Na::Nb::Nc::Nf::Ng::Nh::Ni::Nj::Nk::Nl::Nm::Nn::No::Np::Nq::Nr::Ns::Nt::Nu::Nv::Nw::Nx::Ny::Nz::NA::NB::NC::ND::NF::NG::NH::NI::NJ::NK::NL::NM::NN::NO::NP::NQ::NR::NS::NT::NU::NV::NW::NX::NY::NZ::N5::N7::N8::N_::Oa::Oc::Od::Oe::Of::Og::Oh::Oi::Oj::Ol::Om::On::Oo::Oq::Ot::Ou::Ov::Ox::Oy::Oz::OA::OB::OC::OD::OE::OF::OG::OH::OI::OJ::OK::OL::OM::ON::OO::OQ::OS::OT::OU::OV::OW::OX::OY::OZ::O0::O1::O2::O3::O4::O5::O6::O7::O8::O9::O_::Pb::Pc::Pd::Pf::Pg::Ph::[]),[]⟩ w') :
  Code.wp prog (rs 4 (kF Tryz.f4.body)) Qx ⟨List.toArray (bM::kC::KC::KD::KE::KG::KH::.pointer (some ⟨H.kb,0,none⟩)::KJ::KK::.pointer (some ⟨bc,0,none⟩)::.pointer (some ⟨bw,0,none⟩)::.pointer (some ⟨br,0,none⟩)::KO::KP::KQ::KR::KS::KT::KU::KV::KW::KX::KY::KZ::K0::K1::K2::K3::K4::K5::K6::K7::K8::K9::K_::La::Lc::Ld::Le::Lf::Lg::Lh::Lj::Lk::Ll::Lm::Ln::Lo::Lp::Lq::Ls::Lt::Lu::Lv::Lw::Lx::Ly::Lz::LA::LB::LC::LD::LF::LG::LH::LI::LJ::LK::LL::LM::LN::LO::LP::LQ::LR::LS::LU::LV::LW::LX::LY::LZ::L3::L5::L6::L7::L8::L9::L_::Ma::Mb::Mc::Md::Me::Mf::Mg::Mh::Mi::Mj::Ml::Mm::Mn::Mo::Mq::Mr::Ms::Mt::Mu::Mv::Mw::Mx::My::Mz::MA::MB::MC::MD::ME::MF::MG::MH::MI::MJ::MK::ML::MM::MN::MO::MP::MQ::MR::MS::MT::MU::MV::MW::MX::MY::MZ::M0::M1::M4::M5::M6::M7::M8::M9::M_::Na::Nb::Nc::Nf::Ng::Nh::Ni::Nj::Nk::Nl::Nm::Nn::No::Np::Nq::Nr::Ns::Nt::Nu::Nv::Nw::Nx::Ny::Nz::NA::NB::NC::ND::NF::NG::NH::NI::NJ::NK::NL::NM::NN::NO::NP::NQ::NR::NS::NT::NU::NV::NW::NX::NY::NZ::N5::N7::N8::N_::Oa::Oc::Od::Oe::Of::Og::Oh::Oi::Oj::Ol::Om::On::Oo::Oq::Ot::Ou::Ov::Ox::Oy::Oz::OA::OB::OC::OD::OE::OF::OG::OH::OI::OJ::OK::OL::OM::ON::OO::OQ::OS::OT::OU::OV::OW::OX::OY::OZ::O0::O1::O2::O3::O4::O5::O6::O7::O8::O9::O_::Pb::Pc::Pd::Pf::Pg::Ph::[]),[]⟩ y4:=by
 conv=>arg 2;whnf
 have HSB:=aa hSB
 have HSm:=aa hsm
 have HOp:=aa hop
 have HDn:=aa hdn
 have HT:=aa hT
 have HNo:=aa hno
 have HYes:=aa hyes
 have HPx:=aa hP
 have HK:=aa hK
 have HDl:=aa hdl
 have HRp:=aa hrp
 have HX:=aa hX
 have HBc:=aa hbc
 have HBw:=aa hbw
 have HRow:=aa hrow
 have HSt:=aa hst
 clear hSB hsm hop hdn hT hno hyes hP hK hdl hrp hX hbc hbw hrow hst
 refine k_ HSB.o HSm.o (.inr HOp.o) HDn.o ?_
 rintro a cap need nn w9 ⟨hF9,hB9,hc9⟩
 obtain⟨rfl,rfl⟩:need=2/\nn=(cl.data.length:Int):=by
  have:=HOp.o
  rcases hc9 with ⟨h1,h2,h3⟩|⟨h1,h2,h3⟩
  ·omega
  ·exact⟨h2,h3⟩
 have HF9:=aa hF9
 have HB9:=aa hB9
 clear hF9 hB9 hc9
 intros
 refine nR (λU hU=>HSB.o U (al HB9.o hU)) HSm.o (Cy HSm.o cl) HF9.o HNo.o (λhz=>(HYes.o hz).choose_spec.2.2) (vc HSm.o.oe) (by have:=HDl.o;omega) ?_ ?_
 ·intro hz hc hrg ao co w8 hf8
  obtain⟨hf8,hb8⟩:=hf8
  obtain⟨l,hl1,hl3,-⟩:=HYes.o hz
  rw [hl3] at hrg hf8
  have hrange:0<=cl.off/\0<=(cl.data.length:Int)/\(cl.data.length:Int)<=1024/\cl.off+(cl.data.length:Int)<=(l.length:Int):=by
   unfold dA at hrg
   simp at hrg
   omega
  obtain⟨ev,hev,hid0,hea,hel,hec,hevs⟩:∃e∈Q1,e.id=cl.obj/\e.a=ao/\e.len=l.length/\e.cap=co/\e.vs=S.aM l:=by
   rcases hf8 with ⟨_,_,h⟩|h
   ·exact absurd rfl (h (cl.obj,l) hl1)
   ·exact h
  have hOw:Own y4 base 5 ao l.length co (S.aM l):=by
   have h9:=HT.o.os.each ev hev
   rw [hea,hel,hec,hevs] at h9
   exact⟨h9,λu hu=>by obtain⟨x,_,rfl⟩:=List.mem_map.1 hu;rfl⟩
  have hll:l.length<=1048576:=HSm.o.oe (cl.obj,l) hl1
  obtain⟨off,hof⟩:∃off:Nat,cl.off=(off:Int):=⟨cl.off.toNat,by omega⟩
  have HZ8:Hid (Below y4.heap.size y4 w8):=al HB9.o hb8
  have HOw:=aa hOw
  have HOf:=aa hof
  have HLl:=aa hll
  have hle:off+cl.data.length<=l.length:=by omega
  have HLe:=aa hle
  have HMp:=aa hl1
  have HEv:=aa hev
  have HEi:=aa hid0
  have HEa:=aa hea
  have HCz:=aa hc
  have HT8:=aa (HT.o.later HZ8.o)
  have HAB:Hid (∀k,aD ao k->base<=k/\k<xe):=λk hk=>by
   rw [<-hea] at hk
   exact⟨(HT.o.os.bD k (.inr ⟨ev,hev,hk⟩)).1,HX.o k (.inr ⟨ev,hev,hk⟩)⟩
  have g9:=HSB.o _ HZ8.o
  have HC8:=aa g9.call
  have HS8:=aa g9.Jn
  intros
  rw [hl3]
  clear hf8 hrange hev hid0 hea hel hec hevs hOw hll hof hl1 hl3 hle hc hrg hz g9
  refine wO (dd:=dd) (gg:=gg) (p':=pw p cl.obj off cl.data) (Q1:=qw Q1 ev.id (S.aM (S.bR l cl.data off))) (Q3:=Q3) (a1:=a1) (a2:=a2) (a3:=a3) (e1:=e1) (e2:=e2) (e3:=e3) HOp.o HOf.o HLe.o HLl.o (HOw.o.later HZ8.o) (λU hU=>⟨?_,?_⟩) (λU hU=>?_) (λU hU=>?_) (λU hO hU=>?_) (zL HSm.o HRp.o HMp.o HLe.o) HPx.o ?_
  ·exact R.Bx.but hU HC8.o (λh=>by have:=HAB.o _ h;have:=HBc.o;omega)
  ·exact HRow.o ao U HAB.o ((ae.of HZ8.o).trans hU)
  ·have h9:=R.Bx.but hU HS8.o (λh=>by have:=HAB.o _ h;have:=HBw.o;omega)
   simpa [pw] using h9
  ·exact HSt.o ao U off HAB.o ((ae.of HZ8.o).trans hU) HCz.o HOf.o
  ·have h9:=tX HT8.o HRp.o HEv.o (l:=l) (D:=cl.data) (off:=off) (by rw [HEi.o];exact HMp.o) HLe.o (by rw [HEa.o];exact hO) (by rw [HEa.o];exact hU)
   rw [HEi.o] at h9 ⊢
   exact h9
  ·intro w7 hb7
   have HB7:=aa hb7
   clear hb7
   intros
   exact (HK.o _ ⟨ao,HAB.o,(ae.of HZ8.o).trans HB7.o⟩ ..).1
 ·intro w8 hb8
  have HB8:=aa hb8
  clear hb8
  intros
  exact (HK.o _ ⟨none,λk hk=>(by obtain⟨_,h,_⟩:=hk;cases h),ae.of (al HB9.o HB8.o)⟩ ..).2
end Go.Proofs.YtfmhdimaijimlaaGreatDoor.V
