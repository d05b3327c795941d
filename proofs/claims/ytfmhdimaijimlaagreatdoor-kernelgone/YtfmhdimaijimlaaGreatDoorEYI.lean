import Derived.Test.YtfmhdimaijimlaaGreatDoorEYB
set_option linter.all false
set_option maxRecDepth 1000000
set_option maxHeartbeats 8000000
open Go.Proofs.Tryz
variable {w w' w1 w2:Go.World}{n m k i j b g base kn:Nat}{a:Option Go.Addr}
namespace Go.Proofs.YtfmhdimaijimlaaGreatDoor.V
open Go.RowKit
open Go.Proofs.YtfmhdimaijimlaaGreatDoor.H (B64 Cp)
open Go.Proofs.YtfmhdimaijimlaaGreatDoor.M (wpAnyH_norm)
def pR:Code→Code
 | .seq _ b=>b
 | c=>c
def pL:Code→Code
 | .seq a _=>a
 | c=>c
def pI:Code→Code
 | .block _ c=>c
 | .loop c=>c
 | .scope c=>c
 | .cond _ a _=>a
 | c=>c
def rs:Nat→Code→Code
 | 0,c=>c
 | n+1,.seq _ b=>rs n b
 | _+1,c=>c
def blk1 (b:Option Code):Code:=pI (pL (pR (pI (pI (pR (pL (rs 3 (b.getD .skip))))))))
theorem any_succ {α:Type}{T:List α}{f:α→Bool}{t:α}(h:T[j]?=some t):(T.take (j+1)).any f=((T.take j).any f||f t):=by
 obtain⟨hj,e⟩:=gS.1 h
 rw [List.take_succ_eq_append_getElem hj,List.any_append,e]
 simp
theorem neqQ (a b c:Int)(U:World):(binOp .neq 38 (.agg #[.int .i64 a,.int .u64 b,.int .u64 c]) (.agg #[.int .i64 a,.int .u64 b,.int .u64 c])).run prog U=.ok (.bool false) U:=by rw [H.neqC];simp [H.cEq]
theorem fd0 (r:Rep)(a:Option Addr)(n c:Nat)(U:World):(Instr.field 41 (rpV r a n c) 0).run prog U=.ok (.int .i64 r.code) U:=by kernel_rfl
def G1R (y4:World)(T:List Tok)(op:Int)(c:Cp)(v14 v15:Value)(U:World):Prop:=∃(j:Nat) (rb:Bool),v14=.bool rb∧v15=.int .i64 (j:Int)∧j≤T.length∧Hid (rb=(T.take j).any (rootB op c))∧Below y4.heap.size y4 U
def G2R (y4:World)(H:Hd)(s':Sta)(N':Nat→Prop)(l:Fo)(x:Int)(An:List Int)(v16 v17:Value)(U:World):Prop:=∃(t kp:Nat) (NU:Nat→Prop),v16=.int .i64 (kp:Int)∧v17=.int .i64 (t:Int)∧t≤An.length∧Hid (kp=kpN l x An t)∧Hid (Kn U H s' NU)∧Hid (Went y4 N' U NU)
def G3R (y4:World)(H:Hd)(s':Sta)(N':Nat→Prop)(v:Value)(U:World):Prop:=∃(op:Nat) (NU:Nat→Prop),v=.int .i64 (op:Int)∧2≤op∧op≤7∧Hid (Kn U H s' NU)∧Hid (Went y4 N' U NU)
structure Gb (U:World)(p p':Ps)(bw bc bn:Nat)(cl:R.Cl)(dd gg:R.Sl)(a1:Option Addr)(e1:Nat)(Q1:List Ev)(a2:Option Addr)(e2:Nat)(a3:Option Addr)(e3:Nat)(Q3:List Ev)(b1:Option Addr)(f1:Nat)(R1:List Ev)(b2:Option Addr)(f2:Nat)(b3:Option Addr)(f3:Nat)(R3:List Ev):Prop where
 was:R.Bx U bw (stM a1 p.O.length e1 a2 p.T.length e2 a3 p.P.length e3 p.nx p.px p.t)
 call:R.Bx U bc (R.cC cl dd gg)
 now:R.Bx U bn (stM b1 p'.O.length f1 b2 p'.T.length f2 b3 p'.P.length f3 p'.nx p'.px p'.t)
 lw:Look U p a1 Q1 a2 a3 Q3
 ln:Look U p' b1 R1 b2 b3 R3
theorem gone_rest {u0 u1 u2 u3 u4 u5 u6 u8 u9 u12 u15 u16 u17 u18 u19 u20 u21 u22 u23 u24 u25 u26 u27 u28 u29 u30 u31 u32 u33 u34 u35 u36 u37 u38 u39 u40 u41 u42 u43 u44 u45 u46 u47 u48 u49 u50 u51 u52 u53 u54 u55 u56 u57 u58 u59 u60 u61 u62 u63 u64 u65 u66 u67 u68 u69 u70 u71 u72 u73 u74 u75 u76 u77 u78 u79 u80 u81 u82 u83 u84 u85 u86 u87 u88 u89 u90 u91 u92 u93 u94 u95 u96 u97 u98 u99 u100 u101 u102 u103 u104 u105 u106 u107 u108 u109 u110 u111 u112 u113 u114 u115 u116 u117 u118 u119 u120 u121 u122 u123 u124 u125 u126 u127 u128 u129 u130 u131 u132 u133 u134 u135 u136 u137 u138 u139 u140 u141 u142 u143 u144 u145 u146 u147 u148 u149 u150 u151 u152 u153 u154 u155 u156 u157 u158 u159 u160 u161 u162 u163 u164 u165 u166 u167 u168 u169 u170 u171 u172 u173 u174 u175 u176 u177 u178 u179 u180 u181 u182 u183 u184 u185 u186 u187 u188 u189 u190 u191 u192 u193 u194 u195 u196 u197 u198 u199 u200 u201 u202 u203 u204 u205 u206 u207 u208 u209 u210 u211 u212 u213 u214 u215 u216 u217 u218 u219 u220 u221 u222 u223 u224:Value}{Qx:Exit→Act→World→Prop}{H:Hd}{s s':Sta}{p p':Ps}{cl:R.Cl}{dd gg:R.Sl}{x:Int}{An:List Int}{N':Nat→Prop}{y4:World}{bw bc bn:Nat}{a1:Option Addr}{e1:Nat}{Q1:List Ev}{a2:Option Addr}{e2:Nat}{a3:Option Addr}{e3:Nat}{Q3:List Ev}{b1:Option Addr}{f1:Nat}{R1:List Ev}{b2:Option Addr}{f2:Nat}{b3:Option Addr}{f3:Nat}{R3:List Ev}
  (hGB:∀U,But N' y4 U→Gb U p p' bw bc bn cl dd gg a1 e1 Q1 a2 e2 a3 e3 Q3 b1 f1 R1 b2 f2 b3 f3 R3) (hK4:Kn y4 H s' N') (hkp:Kept H.mo s s' cl x An) (hp:p=psOf H.mo s) (hp':p'=psOf H.mo s') (hI:Inv H.mo s.X s.l) (hsm:p.Small) (hsm':p'.Small) (hpn:0<p'.P.length) (hP:∀c a d v w,Qx (.panic c) (Act.put a d v) w→Qx (.panic c) a w)
  (hK:∀(NU:Nat→Prop) (w':World),Kn w' H s' NU∧Went y4 N' w' NU→∀(v6 v14 v15 v16 v17 v18 v19 v20 v21 v79 v80 v81 v82 v83 v84 v85 v86 v87 v88 v89 v90 v91 v92 v93 v94 v95 v96 v97 v98 v99 v100 v101 v102 v103 v104 v105 v106 v107 v108 v109 v110 v111 v112 v113 v114 v115 v116 v117 v118 v119 v120 v121 v122 v123 v124 v125 v126 v127 v128 v129 v130 v131 v132 v133 v134 v135 v136 v137 v138 v139 v140 v141 v142 v143 v144 v145 v146 v147 v148 v149 v150 v151 v152 v153 v154 v155 v156 v157 v158 v159 v160 v161 v162 v163 v164 v165 v166 v167 v168 v169 v170 v171 v172 v173 v174 v175 v176 v177 v178 v179 v180 v181 v182 v183 v184 v185 v186 v187 v188 v189 v190 v191 v192 v193 v194 v195 v196 v197 v198 v199 v200 v201 v202 v203 v204 v205 v206 v207 v208 v209 v210 v211 v212 v213 v214 v215 v216 v217 v218 v219 v220 v221 v222 v223 v224:Value),Qx .normal ⟨List.toArray (u0::u1::u2::u3::u4::u5::v6::.pointer (some ⟨H.kb,0,none⟩)::u8::u9::.pointer (some ⟨bw,0,none⟩)::.pointer (some ⟨bc,0,none⟩)::u12::.pointer (some ⟨bn,0,none⟩)::v14::v15::v16::v17::v18::v19::v20::v21::u22::u23::u24::u25::u26::u27::u28::u29::u30::u31::u32::u33::u34::u35::u36::u37::u38::u39::u40::u41::u42::u43::u44::u45::u46::u47::u48::u49::u50::u51::u52::u53::u54::u55::u56::u57::u58::u59::u60::u61::u62::u63::u64::u65::u66::u67::u68::u69::u70::u71::u72::u73::u74::u75::u76::u77::u78::v79::v80::v81::v82::v83::v84::v85::v86::v87::v88::v89::v90::v91::v92::v93::v94::v95::v96::v97::v98::v99::v100::v101::v102::v103::v104::v105::v106::v107::v108::v109::v110::v111::v112::v113::v114::v115::v116::v117::v118::v119::v120::v121::v122::v123::v124::v125::v126::v127::v128::v129::v130::v131::v132::v133::v134::v135::v136::v137::v138::v139::v140::v141::v142::v143::v144::v145::v146::v147::v148::v149::v150::v151::v152::v153::v154::v155::v156::v157::v158::v159::v160::v161::v162::v163::v164::v165::v166::v167::v168::v169::v170::v171::v172::v173::v174::v175::v176::v177::v178::v179::v180::v181::v182::v183::v184::v185::v186::v187::v188::v189::v190::v191::v192::v193::v194::v195::v196::v197::v198::v199::v200::v201::v202::v203::v204::v205::v206::v207::v208::v209::v210::v211::v212::v213::v214::v215::v216::v217::v218::v219::v220::v221::v222::v223::v224::[]),[]⟩ w') :
  Code.wp prog (rs 7 (blk1 Tryz.f6.body)) Qx ⟨List.toArray (u0::u1::u2::u3::u4::u5::u6::.pointer (some ⟨H.kb,0,none⟩)::u8::u9::.pointer (some ⟨bw,0,none⟩)::.pointer (some ⟨bc,0,none⟩)::u12::.pointer (some ⟨bn,0,none⟩)::.bool false::u15::u16::u17::u18::u19::u20::u21::u22::u23::u24::u25::u26::u27::u28::u29::u30::u31::u32::u33::u34::u35::u36::u37::u38::u39::u40::u41::u42::u43::u44::u45::u46::u47::u48::u49::u50::u51::u52::u53::u54::u55::u56::u57::u58::u59::u60::u61::u62::u63::u64::u65::u66::u67::u68::u69::u70::u71::u72::u73::u74::u75::u76::u77::u78::u79::u80::u81::u82::u83::u84::u85::u86::u87::u88::u89::u90::u91::u92::u93::u94::u95::u96::u97::u98::u99::u100::u101::u102::u103::u104::u105::u106::u107::u108::u109::u110::u111::u112::u113::u114::u115::u116::u117::u118::u119::u120::u121::u122::u123::u124::u125::u126::u127::u128::u129::u130::u131::u132::u133::u134::u135::u136::u137::u138::u139::u140::u141::u142::u143::u144::u145::u146::u147::u148::u149::u150::u151::u152::u153::u154::u155::u156::u157::u158::u159::u160::u161::u162::u163::u164::u165::u166::u167::u168::u169::u170::u171::u172::u173::u174::u175::u176::u177::u178::u179::u180::u181::u182::u183::u184::u185::u186::u187::u188::u189::u190::u191::u192::u193::u194::u195::u196::u197::u198::u199::u200::u201::u202::u203::u204::u205::u206::u207::u208::u209::u210::u211::u212::u213::u214::u215::u216::u217::u218::u219::u220::u221::u222::u223::u224::[]),[]⟩ y4:=by
 conv=>arg 2;whnf
 have HGB:=hid hGB
 have HK4:=hid hK4
 have HKp:=hid hkp
 have HP:=hid hp
 have HP':=hid hp'
 have HI:=hid hI
 have HSm:=hid hsm
 have HSm':=hid hsm'
 have HPn:=hid hpn
 have HPx:=hid hP
 have HK:=hid hK
 have HTl:Hid (p.T.length≤1048576∧p'.T.length≤1048576):=⟨hsm.t,hsm'.t⟩
 clear hGB hK4 hkp hp hp' hI hsm hsm' hpn hK hP
 go_upto_region 16 with fail
 go_loopw [14,15] (G1R y4 p.T cl.op (cpO cl)) (λ_ v _=>p.T.length - S.ivN v)
 case atStart=>exact⟨0,false,rfl,rfl,Nat.zero_le _,hid rfl,Below.refl _ _⟩
 case round =>
  obtain⟨j,rb,rfl,rfl,hj,HRb,hB⟩:=hrel
  have HB:=hid hB
  have htl:=HTl.o.1
  have g:=HGB.o wr (But.of hB)
  have w1:=g.was.cell 1 rfl
  by_cases hlt:j<p.T.length
  ·have hd:decide ((j:Int)<(p.T.length:Int))=true:=dT (by omega)
   obtain⟨t,ht⟩:∃t,p.T[j]?=some t:=⟨_,gE hlt⟩
   have x0:=g.call.cell 0 rfl
   have x3:=g.call.cell 3 rfl
   have x4:=g.call.cell 4 rfl
   have x5:=g.call.cell 5 rfl
   obtain⟨gt,rfl,c0,c1,c2,c3,c4⟩:=tok_cells g.lw.t ht
   have HNx:Hid ((p.T.take (j+1)).any (rootB cl.op (cpO cl))=(rb||rootB cl.op (cpO cl) t)):=by unfold Hid;rw [any_succ ht,HRb.o]
   clear g hB ht hj HRb
   obtain⟨⟨tb,th,tl⟩,tr,tq⟩:=t
   simp only at c0 c1 c2 c3 c4
   cases rb with
   | true =>
    go_upto_region 18 with fail
    go_quiet (fail)
    go_wp2
    exact⟨⟨j+1,true,rfl,rfl,by omega,by unfold Hid;rw [HNx.o];rfl,below_drewN HB.o _⟩,by simp [S.ivN];omega⟩
   | false =>
    obtain⟨e,he⟩:∃e,e=decide (((tb,th,tl):Cp)=cpO cl):=⟨_,rfl⟩
    have heq:∀U:World,(binOp .eql 38 (.agg #[.int .i64 tb,.int .u64 (th:Int),.int .u64 (tl:Int)]) (.agg #[.int .i64 cl.obj,.int .u64 (cl.hi:Int),.int .u64 (cl.lo:Int)])).run prog U=.ok (.bool e) U:=λU=>by rw [he];exact K.eqlCp (tb,th,tl) (cpO cl) U
    have HE:=hid he
    clear he
    cases e with
    | false =>
     have HF:Hid (rootB cl.op (cpO cl) ((tb,th,tl),tr,tq)=false):=by unfold Hid rootB;rw [←HE.o];rfl
     go_upto_region 18 with fail
     go_quiet (fail)
     go_wp2
     exact⟨⟨j+1,false,rfl,rfl,by omega,by unfold Hid;rw [HNx.o,HF.o];rfl,below_drewN HB.o _⟩,by simp [S.ivN];omega⟩
    | true =>
     by_cases hneg:tq<0
     ·have hdn:decide (tq<0)=true:=dT hneg
      have HF:Hid (rootB cl.op (cpO cl) ((tb,th,tl),tr,tq)=true):=by unfold Hid rootB;rw [←HE.o];simp [hneg]
      go_upto_region 18 with fail
      go_quiet (fail)
      go_wp2
      exact⟨⟨j+1,true,rfl,rfl,by omega,by unfold Hid;rw [HNx.o,HF.o];rfl,below_drewN HB.o _⟩,by simp [S.ivN];omega⟩
     ·have hdn:decide (tq<0)=false:=dF hneg
      obtain⟨o2,ho2⟩:∃o2,o2=(cl.op==2):=⟨_,rfl⟩
      have hob:=ho2.symm
      have HF:Hid (rootB cl.op (cpO cl) ((tb,th,tl),tr,tq)=o2):=by unfold Hid rootB;rw [←HE.o,ho2];simp [hneg];rfl
      clear ho2
      go_upto_region 18 with fail
      go_quiet (fail)
      go_wp2
      exact⟨⟨j+1,o2,rfl,rfl,by omega,by unfold Hid;rw [HNx.o,HF.o];rfl,below_drewN HB.o _⟩,by simp [S.ivN];omega⟩
  ·have hjj:j=p.T.length:=by omega
   have hd:decide ((j:Int)<(p.T.length:Int))=false:=dF (by omega)
   have HRt:Hid (rb=p.T.any (rootB cl.op (cpO cl))):=by unfold Hid;rw [HRb.o,hjj,List.take_length]
   clear hjj hj HRb g hB
   go_upto_region 21 with fail
   have HB1:=HB
   clear HB
   have HW4:Hid (Went y4 N' wr N'):=Went.later HB1.o
   have HK1:=hid (HK4.o.later HB1.o)
   generalize hjv:Value.int .i64 (j:Int)=vj at *
   clear hjv hd hlt w1 htl
   go_loopw [16,17] (G2R y4 H s' N' s.l x An) (λ_ v _=>An.length - S.ivN v)
   case atStart=>exact⟨0,0,N',rfl,rfl,Nat.zero_le _,by unfold Hid kpN;simp,HK1,HW4⟩
   case round =>
    obtain⟨t,kp,NU,rfl,rfl,ht,HKe,HKU,HWU⟩:=hrel
    have htl:=HTl.o.1
    have HLen:Hid (p.T.length=An.length):=by rw [HP.o];exact HKp.o.T.len
    have g:=HGB.o _ HWU.o.2
    have w1:=g.was.cell 1 rfl
    have n1:=g.now.cell 1 rfl
    by_cases hlt:t<An.length
    ·have hd:decide ((t:Int)<(p.T.length:Int))=true:=dT (by have:=HLen.o;omega)
     have hltT:t<p.T.length:=by have:=HLen.o;omega
     obtain⟨y,hy⟩:∃y,An[t]?=some y:=⟨_,gE hlt⟩
     have hTl:Tl s.X s.l p.T An:=by rw [HP.o];exact HKp.o.T
     obtain⟨hyn,q,hTt,hq⟩:=hTl.at_ t y hy
     have hCm:∀U,Below wr.heap.size wr U→Calls prog 20 #[.slice a2 p.T.length e2,.int .i64 (t:Int),.agg #[.int .i64 cl.obj,.int .u64 (cl.hi:Int),.int .u64 (cl.lo:Int)]] U λe w'=>e=.returned (.bool (cam s.X s.l (cpO cl) y))∧Below U.heap.size U w':=λU hU=>came_any HI.o.ok hTl (g.lw.t.later hU) htl (cpO cl) hy
     obtain⟨gt,rfl,c0,c1,c2,c3,c4⟩:=tok_cells g.lw.t hTt
     have HG9:=HKp.o.goes t y hy
     obtain⟨gs,hgs⟩:∃gs,gs=decide (y∈G true s.l x):=⟨_,rfl⟩
     obtain⟨cm,hcm⟩:∃cm,cm=cam s.X s.l (cpO cl) y:=⟨_,rfl⟩
     rw [←hcm] at hCm
     obtain⟨⟨tb,th,tl⟩,htk⟩:∃k,k=(tk s.X y).1:=⟨_,rfl⟩
     obtain⟨tr,htr⟩:∃r,r=rg s.X y:=⟨_,rfl⟩
     rw [←htk] at c0 c1 c2
     rw [←htr] at c3
     simp only at c0 c1 c2 c3 c4
     have hoy:ob s.X y=tb:=by unfold ob;rw [←htk]
     have HTt:Hid (p.T[t]?=some ((tb,th,tl),tr,q)):=by unfold Hid;rw [htk,htr];exact hTt
     have HG:Hid (((rb&&decide (tb=cl.obj))||cm)=gs):=by
      unfold Hid
      rw [hgs,←HG9,hcm,←hoy,HRt.o,HP.o]
     have x3:=g.call.cell 3 rfl
     have x4:=g.call.cell 4 rfl
     have x5:=g.call.cell 5 rfl
     have HSr:Hid (∀U,Below wr.heap.size wr U→(U.cell? ⟨bw,1,none⟩=some (.slice (some ⟨gt,0,none⟩) p.T.length e2)∧U.cell? ⟨gt,t*5,none⟩=some (.int .i64 tb)∧U.cell? ⟨bc,3,none⟩=some (.int .i64 cl.obj)∧U.cell? ⟨bc,4,none⟩=some (.int .u64 (cl.hi:Int))∧U.cell? ⟨bc,5,none⟩=some (.int .u64 (cl.lo:Int)))∧Below wr.heap.size wr U):=λU hU=>⟨⟨cell_later hU w1,cell_later hU c0,cell_later hU x3,cell_later hU x4,cell_later hU x5⟩,hU⟩
     have HCm:=hid hCm
     have HGs:=hid hgs
     have HTk:=hid htk
     have HTr:=hid htr
     have HY:=hid hy
     have HYn:=hid hyn
     clear hCm hgs hcm htk htr hoy HG9 hTt hq hy hyn hTl c1 c2 c3 c4 g n1
     go_upto_region 23 with fail
     go_cut [18] from 119 to 141 (λv U=>v=.bool gs∧Below wr.heap.size wr U)
     case first =>
      have came:True:=trivial
      cases rb with
      | true =>
       by_cases ho:tb=cl.obj
       ·have hob:(tb==cl.obj)=true:=by simpa using ho
        have hgt:gs=true:=by rw [←HG.o,dT ho];rfl
        subst hgt
        generalize cl.obj=co at *
        go_quiet (fail)
        go_wp2
        go_meet
        exact⟨rfl,below_drewN (Below.refl _ _) _⟩
       ·have hob:(tb==cl.obj)=false:=by simpa using ho
        have hgt:gs=cm:=by rw [←HG.o,dF ho];rfl
        subst hgt
        refine wp_region_held_drew (S:=(λU:World=>(U.cell? ⟨bw,1,none⟩=some (.slice (some ⟨gt,0,none⟩) p.T.length e2)∧U.cell? ⟨gt,t*5,none⟩=some (.int .i64 tb)∧U.cell? ⟨bc,3,none⟩=some (.int .i64 cl.obj)∧U.cell? ⟨bc,4,none⟩=some (.int .u64 (cl.hi:Int))∧U.cell? ⟨bc,5,none⟩=some (.int .u64 (cl.lo:Int)))∧Below wr.heap.size wr U)) (by kernel_rfl) (HSr.o _ (Below.refl _ _).drew) (λhHeld=>?_)
        refine nH (bm 23 0) 23 ?_
        refine tH 0 (v:=?_) rfl (λ_ _ _ h=>HPx.o _ _ _ _ _ h) ?_ ?_;rotate_left
        ·(intro w hSw;obtain⟨⟨h1,h2,h3,h4,h5⟩,h6⟩:=hSw;go_simp;try with_reducible rfl)
        try simp only [gz,Act.put]
        refine nH (bm 23 1) 22 ?_
        refine tH 1 (v:=?_) rfl (λ_ _ _ h=>HPx.o _ _ _ _ _ h) ?_ ?_;rotate_left
        ·(intro w hSw;obtain⟨⟨h1,h2,h3,h4,h5⟩,h6⟩:=hSw;go_simp;try with_reducible rfl)
        try simp only [gz,Act.put]
        refine nH (bm 23 3) 21 ?_
        refine tH 2 (v:=?_) rfl (λ_ _ _ h=>HPx.o _ _ _ _ _ h) ?_ ?_;rotate_left
        ·(intro w hSw;obtain⟨⟨h1,h2,h3,h4,h5⟩,h6⟩:=hSw;go_simp;try with_reducible rfl)
        try simp only [gz,Act.put]
        refine nH (bm 23 7) 20 ?_
        refine tH 3 (v:=?_) rfl (λ_ _ _ h=>HPx.o _ _ _ _ _ h) ?_ ?_;rotate_left
        ·(intro w hSw;obtain⟨⟨h1,h2,h3,h4,h5⟩,h6⟩:=hSw;go_simp;try with_reducible rfl)
        try simp only [gz,Act.put]
        refine nH (bm 23 15) 19 ?_
        refine tH 4 (v:=?_) rfl (λ_ _ _ h=>HPx.o _ _ _ _ _ h) ?_ ?_;rotate_left
        ·(intro w hSw;obtain⟨⟨h1,h2,h3,h4,h5⟩,h6⟩:=hSw;go_simp;try with_reducible rfl)
        try simp only [gz,Act.put]
        refine nH (bm 23 31) 18 ?_
        refine tH 5 (v:=?_) rfl (λ_ _ _ h=>HPx.o _ _ _ _ _ h) ?_ ?_;rotate_left
        ·(intro w hSw;obtain⟨⟨h1,h2,h3,h4,h5⟩,h6⟩:=hSw;go_simp;try with_reducible rfl)
        try simp only [gz,Act.put]
        refine nH (bm 23 63) 17 ?_
        refine tH 6 (v:=?_) rfl (λ_ _ _ h=>HPx.o _ _ _ _ _ h) ?_ ?_;rotate_left
        ·(intro w hSw;obtain⟨⟨h1,h2,h3,h4,h5⟩,h6⟩:=hSw;go_simp;try with_reducible rfl)
        try simp only [gz,Act.put]
        refine nH (bm 23 127) 16 ?_
        refine tH 7 (v:=?_) rfl (λ_ _ _ h=>HPx.o _ _ _ _ _ h) ?_ ?_;rotate_left
        ·(intro w hSw;obtain⟨⟨h1,h2,h3,h4,h5⟩,h6⟩:=hSw;go_simp;try with_reducible rfl)
        try simp only [gz,Act.put]
        refine nH (bm 23 255) 15 ?_
        refine tH 8 (v:=?_) rfl (λ_ _ _ h=>HPx.o _ _ _ _ _ h) ?_ ?_;rotate_left
        ·(intro w hSw;obtain⟨⟨h1,h2,h3,h4,h5⟩,h6⟩:=hSw;go_simp;try with_reducible rfl)
        try simp only [gz,Act.put]
        refine nH (bm 23 511) 14 ?_
        refine tH 9 (v:=?_) rfl (λ_ _ _ h=>HPx.o _ _ _ _ _ h) ?_ ?_;rotate_left
        ·(intro w hSw;obtain⟨⟨h1,h2,h3,h4,h5⟩,h6⟩:=hSw;go_simp;try with_reducible rfl)
        try simp only [gz,Act.put]
        refine nH (bm 23 1023) 13 ?_
        refine tH 10 (v:=?_) rfl (λ_ _ _ h=>HPx.o _ _ _ _ _ h) ?_ ?_;rotate_left
        ·(intro w hSw;obtain⟨⟨h1,h2,h3,h4,h5⟩,h6⟩:=hSw;go_simp;try with_reducible rfl)
        try simp only [gz,Act.put]
        refine nH (bm 23 2047) 12 ?_
        refine tH 11 (v:=?_) rfl (λ_ _ _ h=>HPx.o _ _ _ _ _ h) ?_ ?_;rotate_left
        ·(intro w hSw;obtain⟨⟨h1,h2,h3,h4,h5⟩,h6⟩:=hSw;go_simp;try with_reducible rfl)
        try simp only [gz,Act.put]
        refine nH (bm 23 4095) 11 ?_
        refine tH 12 (v:=?_) rfl (λ_ _ _ h=>HPx.o _ _ _ _ _ h) ?_ ?_;rotate_left
        ·(intro w hSw;obtain⟨⟨h1,h2,h3,h4,h5⟩,h6⟩:=hSw;go_simp;try with_reducible rfl)
        try simp only [gz,Act.put]
        refine nH (bm 23 8191) 10 ?_
        refine tH 13 (v:=?_) rfl (λ_ _ _ h=>HPx.o _ _ _ _ _ h) ?_ ?_;rotate_left
        ·(intro w hSw;obtain⟨⟨h1,h2,h3,h4,h5⟩,h6⟩:=hSw;go_simp;try with_reducible rfl)
        try simp only [gz,Act.put]
        refine nH (bm 23 16383) 9 ?_
        refine tH 14 (v:=?_) rfl (λ_ _ _ h=>HPx.o _ _ _ _ _ h) ?_ ?_;rotate_left
        ·(intro w hSw;obtain⟨⟨h1,h2,h3,h4,h5⟩,h6⟩:=hSw;go_simp;try with_reducible rfl)
        try simp only [gz,Act.put]
        refine nH (bm 23 32767) 8 ?_
        refine tH 15 (v:=?_) rfl (λ_ _ _ h=>HPx.o _ _ _ _ _ h) ?_ ?_;rotate_left
        ·(intro w hSw;obtain⟨⟨h1,h2,h3,h4,h5⟩,h6⟩:=hSw;go_simp;try with_reducible rfl)
        try simp only [gz,Act.put]
        refine nH (bm 23 65535) 7 ?_
        refine tH 16 (v:=?_) rfl (λ_ _ _ h=>HPx.o _ _ _ _ _ h) ?_ ?_;rotate_left
        ·(intro w hSw;obtain⟨⟨h1,h2,h3,h4,h5⟩,h6⟩:=hSw;go_simp;try with_reducible rfl)
        try simp only [gz,Act.put]
        refine nH (bm 23 131071) 6 ?_
        refine tH 17 (v:=?_) rfl (λ_ _ _ h=>HPx.o _ _ _ _ _ h) ?_ ?_;rotate_left
        ·(intro w hSw;obtain⟨⟨h1,h2,h3,h4,h5⟩,h6⟩:=hSw;go_simp;try with_reducible rfl)
        try simp only [gz,Act.put]
        refine nH (bm 23 262143) 5 ?_
        refine tH 18 (v:=?_) rfl (λ_ _ _ h=>HPx.o _ _ _ _ _ h) ?_ ?_;rotate_left
        ·(intro w hSw;obtain⟨⟨h1,h2,h3,h4,h5⟩,h6⟩:=hSw;go_simp;try with_reducible rfl)
        try simp only [gz,Act.put]
        refine nH (bm 23 524287) 4 ?_
        refine tH 19 (v:=?_) rfl (λ_ _ _ h=>HPx.o _ _ _ _ _ h) ?_ ?_;rotate_left
        ·(intro w hSw;obtain⟨⟨h1,h2,h3,h4,h5⟩,h6⟩:=hSw;go_simp;try with_reducible rfl)
        try simp only [gz,Act.put]
        refine nH (bm 23 1048575) 3 ?_
        refine yH [20] ?_
        refine cH rfl λK hK=>?_
        go_simp
        go_wp2_with (first|(go_at_call 20;refine (HCm.o _ (Below.refl _ _).drew).mono ?_;rintro e u2 ⟨rfl,hb⟩;have HC2:=hid (b_c (Below.refl wr.heap.size wr).drew hb);clear hb))
        refine hK.out _ _ (HSr.o _ HC2.o) (λhHeld=>?_)
        clear hK K
        try simp only [gz,Act.put]
        refine nH (bm 23 2097151) 2 ?_
        refine tH 21 (v:=?_) rfl (λ_ _ _ h=>HPx.o _ _ _ _ _ h) ?_ ?_;rotate_left
        ·(intro w hSw;obtain⟨⟨h1,h2,h3,h4,h5⟩,h6⟩:=hSw;go_simp;try with_reducible rfl)
        try simp only [gz,Act.put]
        refine nH (bm 23 4194303) 1 ?_
        refine tH 22 (v:=?_) rfl (λ_ _ _ h=>HPx.o _ _ _ _ _ h) ?_ ?_;rotate_left
        ·(intro w hSw;obtain⟨⟨h1,h2,h3,h4,h5⟩,h6⟩:=hSw;go_simp;try with_reducible rfl)
        try simp only [gz,Act.put]
        refine nH (bm 23 8388607) 0 ?_
        refine wpAnyH_done (by kernel_rfl) ?_ _
        go_wp2
        go_meet
        exact⟨rfl,HC2.o⟩
      | false =>
       have hgt:gs=cm:=by rw [←HG.o];rfl
       subst hgt
       refine wp_region_held_drew (S:=(λU:World=>(U.cell? ⟨bw,1,none⟩=some (.slice (some ⟨gt,0,none⟩) p.T.length e2)∧U.cell? ⟨gt,t*5,none⟩=some (.int .i64 tb)∧U.cell? ⟨bc,3,none⟩=some (.int .i64 cl.obj)∧U.cell? ⟨bc,4,none⟩=some (.int .u64 (cl.hi:Int))∧U.cell? ⟨bc,5,none⟩=some (.int .u64 (cl.lo:Int)))∧Below wr.heap.size wr U)) (by kernel_rfl) (HSr.o _ (Below.refl _ _).drew) (λhHeld=>?_)
       refine nH (bm 23 0) 23 ?_
       refine tH 0 (v:=?_) rfl (λ_ _ _ h=>HPx.o _ _ _ _ _ h) ?_ ?_;rotate_left
       ·(intro w hSw;obtain⟨⟨h1,h2,h3,h4,h5⟩,h6⟩:=hSw;go_simp;try with_reducible rfl)
       try simp only [gz,Act.put]
       refine nH (bm 23 1) 22 ?_
       refine tH 1 (v:=?_) rfl (λ_ _ _ h=>HPx.o _ _ _ _ _ h) ?_ ?_;rotate_left
       ·(intro w hSw;obtain⟨⟨h1,h2,h3,h4,h5⟩,h6⟩:=hSw;go_simp;try with_reducible rfl)
       try simp only [gz,Act.put]
       refine nH (bm 23 3) 21 ?_
       refine wpAnyH_take (i:=2) (oi:=_) (v:=undef) rfl (by kernel_rfl) (by kernel_rfl) (by kernel_rfl) (λ_ _ _ h=>HPx.o _ _ _ _ _ h) (Or.inr ⟨by rfl,rfl⟩) (by assumption) ?_
       try simp only [gz,Act.put]
       refine nH (bm 23 7) 20 ?_
       refine wpAnyH_take (i:=3) (oi:=_) (v:=undef) rfl (by kernel_rfl) (by kernel_rfl) (by kernel_rfl) (λ_ _ _ h=>HPx.o _ _ _ _ _ h) (Or.inr ⟨by rfl,rfl⟩) (by assumption) ?_
       try simp only [gz,Act.put]
       refine nH (bm 23 15) 19 ?_
       refine wpAnyH_take (i:=4) (oi:=_) (v:=undef) rfl (by kernel_rfl) (by kernel_rfl) (by kernel_rfl) (λ_ _ _ h=>HPx.o _ _ _ _ _ h) (Or.inr ⟨by rfl,rfl⟩) (by assumption) ?_
       try simp only [gz,Act.put]
       refine nH (bm 23 31) 18 ?_
       refine wpAnyH_take (i:=5) (oi:=_) (v:=undef) rfl (by kernel_rfl) (by kernel_rfl) (by kernel_rfl) (λ_ _ _ h=>HPx.o _ _ _ _ _ h) (Or.inr ⟨by rfl,rfl⟩) (by assumption) ?_
       try simp only [gz,Act.put]
       refine nH (bm 23 63) 17 ?_
       refine wpAnyH_take (i:=6) (oi:=_) (v:=undef) rfl (by kernel_rfl) (by kernel_rfl) (by kernel_rfl) (λ_ _ _ h=>HPx.o _ _ _ _ _ h) (Or.inr ⟨by rfl,rfl⟩) (by assumption) ?_
       try simp only [gz,Act.put]
       refine nH (bm 23 127) 16 ?_
       refine wpAnyH_take (i:=7) (oi:=_) (v:=undef) rfl (by kernel_rfl) (by kernel_rfl) (by kernel_rfl) (λ_ _ _ h=>HPx.o _ _ _ _ _ h) (Or.inr ⟨by rfl,rfl⟩) (by assumption) ?_
       try simp only [gz,Act.put]
       refine nH (bm 23 255) 15 ?_
       refine wpAnyH_take (i:=8) (oi:=_) (v:=undef) rfl (by kernel_rfl) (by kernel_rfl) (by kernel_rfl) (λ_ _ _ h=>HPx.o _ _ _ _ _ h) (Or.inr ⟨by rfl,rfl⟩) (by assumption) ?_
       try simp only [gz,Act.put]
       refine nH (bm 23 511) 14 ?_
       refine wpAnyH_take (i:=9) (oi:=_) (v:=undef) rfl (by kernel_rfl) (by kernel_rfl) (by kernel_rfl) (λ_ _ _ h=>HPx.o _ _ _ _ _ h) (Or.inr ⟨by rfl,rfl⟩) (by assumption) ?_
       try simp only [gz,Act.put]
       refine nH (bm 23 1023) 13 ?_
       refine wpAnyH_take (i:=10) (oi:=_) (v:=undef) rfl (by kernel_rfl) (by kernel_rfl) (by kernel_rfl) (λ_ _ _ h=>HPx.o _ _ _ _ _ h) (Or.inr ⟨by rfl,rfl⟩) (by assumption) ?_
       try simp only [gz,Act.put]
       refine nH (bm 23 2047) 12 ?_
       refine wpAnyH_take (i:=11) (oi:=_) (v:=undef) rfl (by kernel_rfl) (by kernel_rfl) (by kernel_rfl) (λ_ _ _ h=>HPx.o _ _ _ _ _ h) (Or.inr ⟨by rfl,rfl⟩) (by assumption) ?_
       try simp only [gz,Act.put]
       refine nH (bm 23 4095) 11 ?_
       refine wpAnyH_take (i:=12) (oi:=_) (v:=undef) rfl (by kernel_rfl) (by kernel_rfl) (by kernel_rfl) (λ_ _ _ h=>HPx.o _ _ _ _ _ h) (Or.inr ⟨by rfl,rfl⟩) (by assumption) ?_
       try simp only [gz,Act.put]
       refine nH (bm 23 8191) 10 ?_
       refine tH 13 (v:=?_) rfl (λ_ _ _ h=>HPx.o _ _ _ _ _ h) ?_ ?_;rotate_left
       ·(intro w hSw;obtain⟨⟨h1,h2,h3,h4,h5⟩,h6⟩:=hSw;go_simp;try with_reducible rfl)
       try simp only [gz,Act.put]
       refine nH (bm 23 16383) 9 ?_
       refine tH 14 (v:=?_) rfl (λ_ _ _ h=>HPx.o _ _ _ _ _ h) ?_ ?_;rotate_left
       ·(intro w hSw;obtain⟨⟨h1,h2,h3,h4,h5⟩,h6⟩:=hSw;go_simp;try with_reducible rfl)
       try simp only [gz,Act.put]
       refine nH (bm 23 32767) 8 ?_
       refine tH 15 (v:=?_) rfl (λ_ _ _ h=>HPx.o _ _ _ _ _ h) ?_ ?_;rotate_left
       ·(intro w hSw;obtain⟨⟨h1,h2,h3,h4,h5⟩,h6⟩:=hSw;go_simp;try with_reducible rfl)
       try simp only [gz,Act.put]
       refine nH (bm 23 65535) 7 ?_
       refine tH 16 (v:=?_) rfl (λ_ _ _ h=>HPx.o _ _ _ _ _ h) ?_ ?_;rotate_left
       ·(intro w hSw;obtain⟨⟨h1,h2,h3,h4,h5⟩,h6⟩:=hSw;go_simp;try with_reducible rfl)
       try simp only [gz,Act.put]
       refine nH (bm 23 131071) 6 ?_
       refine tH 17 (v:=?_) rfl (λ_ _ _ h=>HPx.o _ _ _ _ _ h) ?_ ?_;rotate_left
       ·(intro w hSw;obtain⟨⟨h1,h2,h3,h4,h5⟩,h6⟩:=hSw;go_simp;try with_reducible rfl)
       try simp only [gz,Act.put]
       refine nH (bm 23 262143) 5 ?_
       refine tH 18 (v:=?_) rfl (λ_ _ _ h=>HPx.o _ _ _ _ _ h) ?_ ?_;rotate_left
       ·(intro w hSw;obtain⟨⟨h1,h2,h3,h4,h5⟩,h6⟩:=hSw;go_simp;try with_reducible rfl)
       try simp only [gz,Act.put]
       refine nH (bm 23 524287) 4 ?_
       refine tH 19 (v:=?_) rfl (λ_ _ _ h=>HPx.o _ _ _ _ _ h) ?_ ?_;rotate_left
       ·(intro w hSw;obtain⟨⟨h1,h2,h3,h4,h5⟩,h6⟩:=hSw;go_simp;try with_reducible rfl)
       try simp only [gz,Act.put]
       refine nH (bm 23 1048575) 3 ?_
       refine yH [20] ?_
       refine cH rfl λK hK=>?_
       go_simp
       go_wp2_with (first|(go_at_call 20;refine (HCm.o _ (Below.refl _ _).drew).mono ?_;rintro e u2 ⟨rfl,hb⟩;have HC2:=hid (b_c (Below.refl wr.heap.size wr).drew hb);clear hb))
       refine hK.out _ _ (HSr.o _ HC2.o) (λhHeld=>?_)
       clear hK K
       try simp only [gz,Act.put]
       refine nH (bm 23 2097151) 2 ?_
       refine tH 21 (v:=?_) rfl (λ_ _ _ h=>HPx.o _ _ _ _ _ h) ?_ ?_;rotate_left
       ·(intro w hSw;obtain⟨⟨h1,h2,h3,h4,h5⟩,h6⟩:=hSw;go_simp;try with_reducible rfl)
       try simp only [gz,Act.put]
       refine nH (bm 23 4194303) 1 ?_
       refine tH 22 (v:=?_) rfl (λ_ _ _ h=>HPx.o _ _ _ _ _ h) ?_ ?_;rotate_left
       ·(intro w hSw;obtain⟨⟨h1,h2,h3,h4,h5⟩,h6⟩:=hSw;go_simp;try with_reducible rfl)
       try simp only [gz,Act.put]
       refine nH (bm 23 8388607) 0 ?_
       refine wpAnyH_done (by kernel_rfl) ?_ _
       go_wp2
       go_meet
       exact⟨rfl,HC2.o⟩
     case rest =>
      obtain⟨rfl,hbc⟩:=hcut
      have HBc:=hid hbc
      have HKc:=hid (HKU.o.later hbc)
      have HWc:Hid (Went y4 N' wc NU):=HWU.o.trans (Went.later hbc)
      have gc:=HGB.o wc HWc.o.2
      have w1:=gc.was.cell 1 rfl
      clear hbc x3 x4 x5 c0 HSr HCm HKU HWU HG
      cases gs with
      | false =>
       have hny:y∉G true s.l x:=of_decide_eq_false HGs.o.symm
       obtain⟨q',hq'⟩:=HKp.o.at_ t y HY.o hny
       have hkq:p'.T[kp]?=some ((tb,th,tl),tr,q'):=by rw [HP'.o,HKe.o,HTk.o,HTr.o];exact hq'
       obtain⟨gn,rfl,d0,d1,d2,d3,d4⟩:=tok_cells gc.ln.t hkq
       obtain⟨gt',e',c0,c1,c2,c3,c4⟩:=tok_cells gc.lw.t HTt.o
       cases e'
       simp only at d0 d1 d2 d3 d4 c0 c1 c2 c3 c4
       have n1:=gc.now.cell 1 rfl
       have hkl:kp<p'.T.length:=(gS.1 hkq).1
       have hdk:decide ((kp:Int)≥(p'.T.length:Int))=false:=dF (by omega)
       have hdk2:decide (p'.T.length≤kp)=false:=dF (by omega)
       have htl2:=HTl.o.2
       have heq:∀U:World,(binOp .neq 38 (.agg #[.int .i64 tb,.int .u64 (th:Int),.int .u64 (tl:Int)]) (.agg #[.int .i64 tb,.int .u64 (th:Int),.int .u64 (tl:Int)])).run prog U=.ok (.bool false) U:=λU=>neqQ tb (th:Int) (tl:Int) U
       have HKe1:Hid (kp+1=kpN s.l x An (t+1)):=by unfold Hid;rw [HKe.o,kpN_kept HY.o hny]
       clear hkq gc hq' hny
       go_upto_region 25 with fail
       go_quiet (fail)
       go_wp2
       exact⟨⟨t+1,kp+1,NU,rfl,rfl,by omega,HKe1,hid (HKc.o.later (below_drewN (Below.refl _ _) _)),hid (HWc.o.trans (Went.later (below_drewN (Below.refl _ _) _)))⟩,by simp [S.ivN];omega⟩
      | true =>
       have hyG:y∈G true s.l x:=of_decide_eq_true HGs.o.symm
       have HKe1:Hid (kp=kpN s.l x An (t+1)):=by unfold Hid;rw [HKe.o,kpN_gone HY.o hyG]
       have HNc:Hid (hasC s'.X s'.l (tb,th,tl)=false):=by unfold Hid;rw [HTk.o];exact HKp.o.gone t y HY.o hyG
       have HOb:Hid (1≤tb∧tb≤4611686018427387904):=by
        have h9:=HKp.o.obj t y HY.o
        unfold ob at h9
        rw [←HTk.o] at h9
        exact h9
       have HWd:Hid (th<B64∧tl<B64):=by
        have h9:=HKp.o.wide t y HY.o
        rw [←HTk.o] at h9
        exact h9
       obtain⟨v0,hv0⟩:∃v0,p'.P[0]?=some v0:=⟨_,gE HPn.o⟩
       obtain⟨ev,hev,_,hid0,_,_⟩:=key_at gc.ln.pk hv0
       have hlen0:0<(evs R3).length:=by rw [evs_len];have:=(gS.1 hev).1;omega
       obtain⟨gq,rfl,hqc⟩:=gc.ln.q hlen0
       have q0:=hqc _ _ (evs_at R3 0 ev hev 0 (by omega))
       have n2:=gc.now.cell 2 rfl
       obtain⟨by0,hby0⟩:∃by0,by0=v0.1:=⟨_,rfl⟩
       have HBy:Hid (by0∈s'.P):=by
        have h9:v0∈p'.P:=List.mem_of_getElem? hv0
        rw [HP'.o] at h9
        obtain⟨i9,h10,h11⟩:=List.mem_map.1 (show v0∈s'.P.map (λi=>(i,s'.D i)) from h9)
        rw [hby0,←h11];exact h10
       have hev1:ev.id=by0:=by rw [hby0];exact hid0
       rw [hev1] at q0
       have hpn:=HPn.o
       clear hv0 hev hid0 hlen0 hqc hby0 hev1 gc hyG
       go_upto_region 30 with fail
       clear q0 n2 hpn w1
       go_loopw [20] (G3R y4 H s' N') (λv _=>7 - S.ivN v)
       case atStart=>exact⟨2,NU,rfl,by omega,by omega,HKc,HWc⟩
       case round =>
        obtain⟨op,NV,rfl,ho2,ho7,HKv,HWv⟩:=hrel
        have g3:=HGB.o wr HWv.o.2
        have w1:=g3.was.cell 1 rfl
        obtain⟨gt',e',c0,c1,c2,c3,c4⟩:=tok_cells g3.lw.t HTt.o
        cases e'
        simp only at c0 c1 c2 c3 c4
        clear g3 c3 c4
        by_cases h7:op=7
        ·subst h7
         go_wp2
         exact⟨⟨t+1,kp,NV,rfl,rfl,by omega,HKe1,HKv,HWv⟩,by simp [S.ivN];omega⟩
        ·have hop:op=2∨op=3∨op=4∨op=5∨op=6:=by omega
         clear h7 ho2 ho7
         rcases hop with rfl|rfl|rfl|rfl|rfl
         ·go_upto_region 37 with fail
          obtain⟨z1,hz1⟩:∃z1,z1=wr.alloc (Obj.cells #[.int .i64 2,.int .i64 by0,.int .i64 0,.int .i64 tb,.int .u64 (th:Int),.int .u64 (tl:Int),.bool false,.int .i64 0,.int .i64 0,.int .i64 0,.slice none 0 0,.int .i64 0,.slice none 0 0] 45):=⟨_,rfl⟩
          have HZb:Hid (Below wr.heap.size wr z1):=by rw [hz1];exact below1 _ _
          have HZx:Hid (R.Bx z1 wr.heap.size (R.cC (ask 2 by0 (tb,th,tl)) .nil .nil)):=by rw [hz1];exact R.Bx.new wr [.int .i64 2,.int .i64 by0,.int .i64 0,.int .i64 tb,.int .u64 (th:Int),.int .u64 (tl:Int),.bool false,.int .i64 0,.int .i64 0,.int .i64 0,.slice none 0 0,.int .i64 0,.slice none 0 0] 45
          rw [←hz1]
          clear hz1
          have HLc:=hid (ldC_at HZx.o.range)
          obtain⟨A3,hA3⟩:∃A3,A3=doA H.p s' (ask 2 by0 (tb,th,tl)):=⟨_,rfl⟩
          have hask:=ask_do (p:=H.p) HKv.o.kf (op:=2) (by omega) HBy.o HOb.o HNc.o
          rw [←hA3] at hask
          have hcode:=hask.1
          have HS3:=hid hask.2
          have HDo:Hid (Calls prog 13 #[.pointer (some ⟨H.kb,0,none⟩),.agg (R.cC (ask 2 by0 (tb,th,tl)) .nil .nil).toArray] z1 (Rets z1 H NV A3)):=by
           rw [hA3]
           exact do_any (HKv.o.later HZb.o) ⟨R.row_nil z1,R.RI.nil z1,HWd.o.1,HWd.o.2⟩ (λh=>absurd h (by decide))
          have hfd:∀(a:Option Addr) (n c:Nat) (U:World),(Instr.field 41 (rpV A3.1 a n c) 0).run prog U=.ok (.int .i64 3) U:=λa n c U=>by rw [fd0,hcode]
          clear hask hA3
          go_wp2_with (first|((with_reducible refine R.ld_arm HLc.o ?_ ?_);(· rfl))|(go_at_call 13;refine HDo.o.mono ?_;rintro e z2 ⟨ra,rn,rc,NW,rfl,ho,hk,hw,hq⟩;have HKw:Hid (Kn z2 H s' NW):=(by have hk2:=hk;rw [HS3.o] at hk2;exact hk2);have HWw:=hid hw;clear ho hk hw hq))
          exact⟨⟨3,NW,rfl,by omega,by omega,HKw,hid ((HWv.o.trans (Went.later HZb.o)).trans HWw.o)⟩,by simp [S.ivN]⟩
         ·go_upto_region 37 with fail
          obtain⟨z1,hz1⟩:∃z1,z1=wr.alloc (Obj.cells #[.int .i64 3,.int .i64 by0,.int .i64 0,.int .i64 tb,.int .u64 (th:Int),.int .u64 (tl:Int),.bool false,.int .i64 1,.int .i64 0,.int .i64 0,.slice none 0 0,.int .i64 0,.slice none 0 0] 45):=⟨_,rfl⟩
          have HZb:Hid (Below wr.heap.size wr z1):=by rw [hz1];exact below1 _ _
          have HZx:Hid (R.Bx z1 wr.heap.size (R.cC (ask 3 by0 (tb,th,tl)) .nil .nil)):=by rw [hz1];exact R.Bx.new wr [.int .i64 3,.int .i64 by0,.int .i64 0,.int .i64 tb,.int .u64 (th:Int),.int .u64 (tl:Int),.bool false,.int .i64 1,.int .i64 0,.int .i64 0,.slice none 0 0,.int .i64 0,.slice none 0 0] 45
          rw [←hz1]
          clear hz1
          have HLc:=hid (ldC_at HZx.o.range)
          obtain⟨A3,hA3⟩:∃A3,A3=doA H.p s' (ask 3 by0 (tb,th,tl)):=⟨_,rfl⟩
          have hask:=ask_do (p:=H.p) HKv.o.kf (op:=3) (by omega) HBy.o HOb.o HNc.o
          rw [←hA3] at hask
          have hcode:=hask.1
          have HS3:=hid hask.2
          have HDo:Hid (Calls prog 13 #[.pointer (some ⟨H.kb,0,none⟩),.agg (R.cC (ask 3 by0 (tb,th,tl)) .nil .nil).toArray] z1 (Rets z1 H NV A3)):=by
           rw [hA3]
           exact do_any (HKv.o.later HZb.o) ⟨R.row_nil z1,R.RI.nil z1,HWd.o.1,HWd.o.2⟩ (λh=>absurd h (by decide))
          have hfd:∀(a:Option Addr) (n c:Nat) (U:World),(Instr.field 41 (rpV A3.1 a n c) 0).run prog U=.ok (.int .i64 3) U:=λa n c U=>by rw [fd0,hcode]
          clear hask hA3
          go_wp2_with (first|((with_reducible refine R.ld_arm HLc.o ?_ ?_);(· rfl))|(go_at_call 13;refine HDo.o.mono ?_;rintro e z2 ⟨ra,rn,rc,NW,rfl,ho,hk,hw,hq⟩;have HKw:Hid (Kn z2 H s' NW):=(by have hk2:=hk;rw [HS3.o] at hk2;exact hk2);have HWw:=hid hw;clear ho hk hw hq))
          exact⟨⟨4,NW,rfl,by omega,by omega,HKw,hid ((HWv.o.trans (Went.later HZb.o)).trans HWw.o)⟩,by simp [S.ivN]⟩
         ·go_upto_region 37 with fail
          obtain⟨z1,hz1⟩:∃z1,z1=wr.alloc (Obj.cells #[.int .i64 4,.int .i64 by0,.int .i64 0,.int .i64 tb,.int .u64 (th:Int),.int .u64 (tl:Int),.bool false,.int .i64 0,.int .i64 0,.int .i64 0,.slice none 0 0,.int .i64 0,.slice none 0 0] 45):=⟨_,rfl⟩
          have HZb:Hid (Below wr.heap.size wr z1):=by rw [hz1];exact below1 _ _
          have HZx:Hid (R.Bx z1 wr.heap.size (R.cC (ask 4 by0 (tb,th,tl)) .nil .nil)):=by rw [hz1];exact R.Bx.new wr [.int .i64 4,.int .i64 by0,.int .i64 0,.int .i64 tb,.int .u64 (th:Int),.int .u64 (tl:Int),.bool false,.int .i64 0,.int .i64 0,.int .i64 0,.slice none 0 0,.int .i64 0,.slice none 0 0] 45
          rw [←hz1]
          clear hz1
          have HLc:=hid (ldC_at HZx.o.range)
          obtain⟨A3,hA3⟩:∃A3,A3=doA H.p s' (ask 4 by0 (tb,th,tl)):=⟨_,rfl⟩
          have hask:=ask_do (p:=H.p) HKv.o.kf (op:=4) (by omega) HBy.o HOb.o HNc.o
          rw [←hA3] at hask
          have hcode:=hask.1
          have HS3:=hid hask.2
          have HDo:Hid (Calls prog 13 #[.pointer (some ⟨H.kb,0,none⟩),.agg (R.cC (ask 4 by0 (tb,th,tl)) .nil .nil).toArray] z1 (Rets z1 H NV A3)):=by
           rw [hA3]
           exact do_any (HKv.o.later HZb.o) ⟨R.row_nil z1,R.RI.nil z1,HWd.o.1,HWd.o.2⟩ (λh=>absurd h (by decide))
          have hfd:∀(a:Option Addr) (n c:Nat) (U:World),(Instr.field 41 (rpV A3.1 a n c) 0).run prog U=.ok (.int .i64 3) U:=λa n c U=>by rw [fd0,hcode]
          clear hask hA3
          go_wp2_with (first|((with_reducible refine R.ld_arm HLc.o ?_ ?_);(· rfl))|(go_at_call 13;refine HDo.o.mono ?_;rintro e z2 ⟨ra,rn,rc,NW,rfl,ho,hk,hw,hq⟩;have HKw:Hid (Kn z2 H s' NW):=(by have hk2:=hk;rw [HS3.o] at hk2;exact hk2);have HWw:=hid hw;clear ho hk hw hq))
          exact⟨⟨5,NW,rfl,by omega,by omega,HKw,hid ((HWv.o.trans (Went.later HZb.o)).trans HWw.o)⟩,by simp [S.ivN]⟩
         ·go_upto_region 37 with fail
          obtain⟨z1,hz1⟩:∃z1,z1=wr.alloc (Obj.cells #[.int .i64 5,.int .i64 by0,.int .i64 0,.int .i64 tb,.int .u64 (th:Int),.int .u64 (tl:Int),.bool true,.int .i64 0,.int .i64 0,.int .i64 0,.slice none 0 0,.int .i64 0,.slice none 0 0] 45):=⟨_,rfl⟩
          have HZb:Hid (Below wr.heap.size wr z1):=by rw [hz1];exact below1 _ _
          have HZx:Hid (R.Bx z1 wr.heap.size (R.cC (ask 5 by0 (tb,th,tl)) .nil .nil)):=by rw [hz1];exact R.Bx.new wr [.int .i64 5,.int .i64 by0,.int .i64 0,.int .i64 tb,.int .u64 (th:Int),.int .u64 (tl:Int),.bool true,.int .i64 0,.int .i64 0,.int .i64 0,.slice none 0 0,.int .i64 0,.slice none 0 0] 45
          rw [←hz1]
          clear hz1
          have HLc:=hid (ldC_at HZx.o.range)
          obtain⟨A3,hA3⟩:∃A3,A3=doA H.p s' (ask 5 by0 (tb,th,tl)):=⟨_,rfl⟩
          have hask:=ask_do (p:=H.p) HKv.o.kf (op:=5) (by omega) HBy.o HOb.o HNc.o
          rw [←hA3] at hask
          have hcode:=hask.1
          have HS3:=hid hask.2
          have HDo:Hid (Calls prog 13 #[.pointer (some ⟨H.kb,0,none⟩),.agg (R.cC (ask 5 by0 (tb,th,tl)) .nil .nil).toArray] z1 (Rets z1 H NV A3)):=by
           rw [hA3]
           exact do_any (HKv.o.later HZb.o) ⟨R.row_nil z1,R.RI.nil z1,HWd.o.1,HWd.o.2⟩ (λh=>absurd h (by decide))
          have hfd:∀(a:Option Addr) (n c:Nat) (U:World),(Instr.field 41 (rpV A3.1 a n c) 0).run prog U=.ok (.int .i64 3) U:=λa n c U=>by rw [fd0,hcode]
          clear hask hA3
          go_wp2_with (first|((with_reducible refine R.ld_arm HLc.o ?_ ?_);(· rfl))|(go_at_call 13;refine HDo.o.mono ?_;rintro e z2 ⟨ra,rn,rc,NW,rfl,ho,hk,hw,hq⟩;have HKw:Hid (Kn z2 H s' NW):=(by have hk2:=hk;rw [HS3.o] at hk2;exact hk2);have HWw:=hid hw;clear ho hk hw hq))
          exact⟨⟨6,NW,rfl,by omega,by omega,HKw,hid ((HWv.o.trans (Went.later HZb.o)).trans HWw.o)⟩,by simp [S.ivN]⟩
         ·go_upto_region 37 with fail
          obtain⟨z1,hz1⟩:∃z1,z1=wr.alloc (Obj.cells #[.int .i64 6,.int .i64 by0,.int .i64 0,.int .i64 tb,.int .u64 (th:Int),.int .u64 (tl:Int),.bool true,.int .i64 0,.int .i64 0,.int .i64 0,.slice none 0 0,.int .i64 0,.slice none 0 0] 45):=⟨_,rfl⟩
          have HZb:Hid (Below wr.heap.size wr z1):=by rw [hz1];exact below1 _ _
          have HZx:Hid (R.Bx z1 wr.heap.size (R.cC (ask 6 by0 (tb,th,tl)) .nil .nil)):=by rw [hz1];exact R.Bx.new wr [.int .i64 6,.int .i64 by0,.int .i64 0,.int .i64 tb,.int .u64 (th:Int),.int .u64 (tl:Int),.bool true,.int .i64 0,.int .i64 0,.int .i64 0,.slice none 0 0,.int .i64 0,.slice none 0 0] 45
          rw [←hz1]
          clear hz1
          have HLc:=hid (ldC_at HZx.o.range)
          obtain⟨A3,hA3⟩:∃A3,A3=doA H.p s' (ask 6 by0 (tb,th,tl)):=⟨_,rfl⟩
          have hask:=ask_do (p:=H.p) HKv.o.kf (op:=6) (by omega) HBy.o HOb.o HNc.o
          rw [←hA3] at hask
          have hcode:=hask.1
          have HS3:=hid hask.2
          have HDo:Hid (Calls prog 13 #[.pointer (some ⟨H.kb,0,none⟩),.agg (R.cC (ask 6 by0 (tb,th,tl)) .nil .nil).toArray] z1 (Rets z1 H NV A3)):=by
           rw [hA3]
           exact do_any (HKv.o.later HZb.o) ⟨R.row_nil z1,R.RI.nil z1,HWd.o.1,HWd.o.2⟩ (λh=>absurd h (by decide))
          have hfd:∀(a:Option Addr) (n c:Nat) (U:World),(Instr.field 41 (rpV A3.1 a n c) 0).run prog U=.ok (.int .i64 3) U:=λa n c U=>by rw [fd0,hcode]
          clear hask hA3
          go_wp2_with (first|((with_reducible refine R.ld_arm HLc.o ?_ ?_);(· rfl))|(go_at_call 13;refine HDo.o.mono ?_;rintro e z2 ⟨ra,rn,rc,NW,rfl,ho,hk,hw,hq⟩;have HKw:Hid (Kn z2 H s' NW):=(by have hk2:=hk;rw [HS3.o] at hk2;exact hk2);have HWw:=hid hw;clear ho hk hw hq))
          exact⟨⟨7,NW,rfl,by omega,by omega,HKw,hid ((HWv.o.trans (Went.later HZb.o)).trans HWw.o)⟩,by simp [S.ivN]⟩
    ·have htA:t=An.length:=by omega
     have hd:decide ((t:Int)<(p.T.length:Int))=false:=dF (by have:=HLen.o;omega)
     have hltT:¬t<p.T.length:=by have:=HLen.o;omega
     have hkn:kp=p'.T.length:=by rw [HKe.o,htA,HKp.o.len,HP'.o]
     have hkb:((kp:Int) != (p'.T.length:Int))=false:=by rw [hkn];simp
     have HSx:Hid (∀U,Below wr.heap.size wr U→R.Bx U bn (stM b1 p'.O.length f1 b2 p'.T.length f2 b3 p'.P.length f3 p'.nx p'.px p'.t)):=λU hU=>R.Bx.later hU g.now
     have HLn:Hid (∀U,Below wr.heap.size wr U→Look U p' b1 R1 b2 b3 R3):=λU hU=>g.ln.later hU
     have HSt:Hid (Calls prog 17 #[.pointer (some ⟨H.kb,0,none⟩)] wr.drew (StRets wr.drew p')):=by
      obtain⟨d,hdd,ht9,hf,_⟩:=HKU.o.later (Below.refl wr.heap.size wr).drew
      rw [HP'.o]
      exact state_any hdd hf
     clear htA hkn g n1
     go_upto_region 39 with fail
     clear w1
     refine wp_region_held_drew (S:=(λU:World=>R.Bx U bn (stM b1 p'.O.length f1 b2 p'.T.length f2 b3 p'.P.length f3 p'.nx p'.px p'.t))) (by kernel_rfl) (HSx.o _ (Below.refl _ _).drew) (λhHeld=>?_)
     refine nH (bm 12 0) 12 ?_
     refine tH 0 (v:=?_) rfl (λ_ _ _ h=>HPx.o _ _ _ _ _ h) ?_ ?_;rotate_left
     ·(intro w hSw;have h1:=hSw.cell 1 rfl;go_simp;try with_reducible rfl)
     try simp only [gz,Act.put]
     refine nH (bm 12 1) 11 ?_
     refine tH 1 (v:=?_) rfl (λ_ _ _ h=>HPx.o _ _ _ _ _ h) ?_ ?_;rotate_left
     ·(intro w hSw;have h1:=hSw.cell 1 rfl;go_simp;try with_reducible rfl)
     try simp only [gz,Act.put]
     refine nH (bm 12 3) 10 ?_
     refine tH 2 (v:=?_) rfl (λ_ _ _ h=>HPx.o _ _ _ _ _ h) ?_ ?_;rotate_left
     ·(intro w hSw;have h1:=hSw.cell 1 rfl;go_simp;try with_reducible rfl)
     try simp only [gz,Act.put]
     refine nH (bm 12 7) 9 ?_
     refine tH 3 (v:=?_) rfl (λ_ _ _ h=>HPx.o _ _ _ _ _ h) ?_ ?_;rotate_left
     ·(intro w hSw;have h1:=hSw.cell 1 rfl;go_simp;try with_reducible rfl)
     try simp only [gz,Act.put]
     refine nH (bm 12 15) 8 ?_
     refine tH 4 (v:=?_) rfl (λ_ _ _ h=>HPx.o _ _ _ _ _ h) ?_ ?_;rotate_left
     ·(intro w hSw;have h1:=hSw.cell 1 rfl;go_simp;try with_reducible rfl)
     try simp only [gz,Act.put]
     refine nH (bm 12 31) 7 ?_
     refine tH 5 (v:=?_) rfl (λ_ _ _ h=>HPx.o _ _ _ _ _ h) ?_ ?_;rotate_left
     ·(intro w hSw;have h1:=hSw.cell 1 rfl;go_simp;try with_reducible rfl)
     try simp only [gz,Act.put]
     refine nH (bm 12 63) 6 ?_
     refine tH 6 (v:=?_) rfl (λ_ _ _ h=>HPx.o _ _ _ _ _ h) ?_ ?_;rotate_left
     ·(intro w hSw;have h1:=hSw.cell 1 rfl;go_simp;try with_reducible rfl)
     try simp only [gz,Act.put]
     refine nH (bm 12 127) 5 ?_
     refine tH 8 (v:=stV b1 p'.O.length f1 b2 p'.T.length f2 b3 p'.P.length f3 p'.nx p'.px p'.t) rfl (λ_ _ _ h=>HPx.o _ _ _ _ _ h) ?_ ?_
     ·(intro w hSw;(try dsimp only at hSw);exact K.ex_load rfl rfl (ldS hSw))
     try simp only [gz,Act.put]
     refine nH (bm 12 383) 4 ?_
     refine yH [7] ?_
     refine cH rfl λK hK=>?_
     go_simp
     go_wp2_with (first|(go_at_call 17;refine HSt.o.mono ?_;rintro e z1 ⟨d1,g1,S1,d2,g2,d3,g3,S3,rfl,hT,hb⟩;have HT5:=hid hT;have HZ1:Hid (Below wr.heap.size wr z1):=b_c (Below.refl _ _).drew hb;have HSs:=hid (sameState_eq (w:=z1) p' (c1:=g1) (c2:=g2) (c3:=g3) (d1:=f1) (d2:=f2) (d3:=f3) hT.look (HLn.o z1 HZ1.o) HSm'.o);clear hT hb))
     refine hK.out _ _ (HSx.o _ HZ1.o) (λhHeld=>?_)
     clear hK K
     try simp only [gz,Act.put]
     refine nH (bm 12 511) 3 ?_
     refine yH [9] ?_
     refine cH rfl λK hK=>?_
     go_simp
     go_wp2_with (first|(go_at_call 16;refine HSs.o.mono ?_;rintro e z2 ⟨rfl,hb⟩;have HZ2:Hid (Below wr.heap.size wr z2):=b_c HZ1.o hb;clear hb))
     refine hK.out _ _ (HSx.o _ HZ2.o) (λhHeld=>?_)
     clear hK K
     try simp only [gz,Act.put]
     refine nH (bm 12 1023) 2 ?_
     refine tH 10 (v:=?_) rfl (λ_ _ _ h=>HPx.o _ _ _ _ _ h) ?_ ?_;rotate_left
     ·(intro w hSw;have h1:=hSw.cell 1 rfl;go_simp;try with_reducible rfl)
     try simp only [gz,Act.put]
     refine nH (bm 12 2047) 1 ?_
     refine tH 11 (v:=?_) rfl (λ_ _ _ h=>HPx.o _ _ _ _ _ h) ?_ ?_;rotate_left
     ·(intro w hSw;have h1:=hSw.cell 1 rfl;go_simp;try with_reducible rfl)
     try simp only [gz,Act.put]
     refine nH (bm 12 4095) 0 ?_
     refine wpAnyH_done (by kernel_rfl) ?_ _
     go_wp2
     exact HK.o NU _ ⟨HKU.o.later HZ2.o,HWU.o.trans (Went.later HZ2.o)⟩ ..
end Go.Proofs.YtfmhdimaijimlaaGreatDoor.V
