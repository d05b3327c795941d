import Derived.Test.YtffmodpgddecnaaZ39
import Derived.Deep.CutBlock
import Derived.Deep.DeepCutAuto
namespace Go.Proofs.Ytffmodpgddecnaa.V.E
open Go.RowKit Go.Maps
open Go.Proofs.Ytffmodpgddecnaa.H (B64 Cp)
open Go.Proofs.Ytffmodpgddecnaa.M (wpAnyH_norm)
set_option linter.unusedVariables false
set_option linter.unusedSimpArgs false
section
variable {y:World}
set_option maxRecDepth 1000000 in
set_option maxHeartbeats 8000000 in
theorem kp_mid {u0 u4 u5 u6 u7 u9 u11 u12 u13 u14 u15 u16 u17 u18 u19 u20 u21 u22 u23 u24 u25 u26 u27 u28 u29 u30 u31 u32 u33 u34 u35 u36 u37 u38 u39 u40 u41 u42 u43 u44 u45 u46 u47 u48 u49 u50 u51 u52 u53 u54 u55 u56 u57 u58 u59 u60 u61 u62 u63 u64 u65 u66 u67 u68 u69 u70 u71 u72 u73 u74 u75 u76 u77 u78 u79 u80 u81 u82 u83 u84 u85 u86 u87 u88 u89 u90 u91 u92 u93 u94 u95 u96 u97 u98 u99 u100 u101 u102 u103 u104 u105 u106 u107 u108 u109 u110 u111 u112 u113 u114 u115 u116 u117 u118 u119 u120 u121 u122 u123 u124 u125 u126 u127 u128 u129 u130 u131 u132 u133 u134 u135 u136 u137 u138 u139 u140 u141 u142 u143 u144 u145 u146 u147 u148 u149 u150 u151 u152 u153 u154 u155 u156 u157 u158 u159 u160 u161 u162 u163 u164 u165 u166 u167 u168 u169 u170 u171 u172 u173 u174 u175 u176 u177 u178 u179 u180 u181 u182 u183 u184 u185 u186 u187 u188 u189 u190 u191 u192 u193 u194 u195 u196 u197 u198 u199 u200 u201 u202 u203 u204 u205 u206 u207 u208 u209 u210 u211 u212 u213 u214 u215 u216 u217 u218 u219 u220 u221 u222 u223 u224 u225 u226 u227 u228 u229 u230 u231 u232 u233 u234 u235 u236 u237 u238 u239 u240 u241 u242 u243 u244 u245 u246 u247 u248 u249 u250 u251 u252 u253 u254 u255 u256 u257 u258 u259 u260 u261 u262 u263 u264 u265 u266 u267 u268 u269 u270 u271 u272 u273 u274 u275 u276 u277 u278 u279 u280 u281 u282 u283 u284 u285 u286 u287 u288 u289 u290 u291 u292 u293 u294 u295 u296 u297 u298 u299 u300 u301 u302 u303 u304 u305 u306 u307 u308 u309 u310 u311 u312 u313 u314 u315 u316 u317 u318 u319 u320 u321 u322 u323 u324 u325 u326 u327 u328 u329 u330 u331 u332 u333 u334 u335 u336 u337 u338 u339 u340 u341 u342 u343 u344 u345 u346 u347 u348 u349 u350 u351 u352 u353 u354 u355 u356 u357 u358 u359 u360 u361 u362 u363 u364 u365 u366 u367 u368 u369 u370 u371 u372 u373 u374 u375 u376 u377 u378 u379 u380 u381 u382 u383 u384 u385 u386 u387 u388 u389 u390 u391 u392 u393 u394 u395 u396 u397 u398 u399 u400 u401 u402 u403 u404 u405 u406 u407 u408 u409 u410 u411 u412 u413 u414 u415 u416 u417 u418 u419 u420 u421 u422 u423 u424 u425 u426 u427:Value}{Qx:Exit→Act→World→Prop}{c:Cf}{bc:Nat}{a1:Option Addr}{m c1:Nat}{f:Nat→Nat}{ac:Option Addr}{nl cap:Nat}{C:List R.Cl}{D' G':Nat→R.Sl}{hx hy:Hm}{Nx Ny:Nat→Prop}{s0:Nat}(hcm:c.may=true)(hbx:R.Bx y bc c.L)(hws:D.Ws y a1 m c1 f)(hm:m≤4096)(hC:Cz y ac nl C D' G')(hnl:nl*136≤140737488355328)(hcb:∀i c,C[i]?=some c→∀j,(0<(D' i).n∧Blk (D' i).a j)∨(0<(G' i).n∧Blk (G' i).a j)→j<s0)(hca:0<nl→∀j,Blk ac j→j<s0)(kx:Mw y hx pl0 Nx)(ky:Mw y hy pl0 Ny)(px:hx.p=(c.pm m (fun j=>D.cutN (f j) c.W)))(py:hy.p=(c.pm m (fun j=>D.cutN (f j) c.W)))(mx:hx.cf.may=true)(my:hy.cf.may=true)(xb:∀j,MdB hx.g hx.bo hx.bl Nx j→s0≤j)(yb:∀j,MdB hy.g hy.bo hy.bl Ny j→s0≤j)(xy:∀j,MdB hx.g hx.bo hx.bl Nx j→¬MdB hy.g hy.bo hy.bl Ny j)(hs0:s0≤y.heap.size)(hP:∀c a d v w,Qx (.panic c) (Act.put a d v) w→Qx (.panic c) a w)
  (hK:∀(w':World),But (fun j=>s0≤j) y w'→∀(v9 v11 v13 v14 v15 v16 v17 v18 v19 v20 v21 v22 v23 v24 v25 v26 v27 v28 v29 v30 v31 v32 v33 v100 v101 v102 v103 v104 v105 v106 v107 v108 v109 v110 v111 v112 v113 v114 v115 v116 v117 v118 v119 v120 v121 v122 v123 v124 v125 v126 v127 v128 v129 v130 v131 v132 v133 v134 v135 v136 v137 v138 v139 v140 v141 v142 v143 v144 v145 v146 v147 v148 v149 v150 v151 v152 v153 v154 v155 v156 v157 v158 v159 v160 v161 v162 v163 v164 v165 v166 v167 v168 v169 v170 v171 v172 v173 v174 v175 v176 v177 v178 v179 v180 v181 v182 v183 v184 v185 v186 v187 v188 v189 v190 v191 v192 v193 v194 v195 v196 v197 v198 v199 v200 v201 v202 v203 v204 v205 v206 v207 v208 v209 v210 v211 v212 v213 v214 v215 v216 v217 v218 v219 v220 v221 v222 v223 v224 v225 v226 v227 v228 v229 v230 v231 v232 v233 v234 v235 v236 v237 v238 v239 v240 v241 v242 v243 v244 v245 v246 v247 v248 v249 v250 v251 v252 v253 v254 v255 v256 v257 v258 v259 v260 v261 v262 v263 v264 v265 v266 v267 v268 v269 v270 v271 v272 v273 v274 v275 v276 v277 v278 v279 v280 v281 v282 v283 v284 v285 v286 v287 v288 v289 v290 v291 v292 v293 v294 v295 v296 v297 v298 v299 v300 v301 v302 v303 v304 v305 v306 v307 v308 v309 v310 v311 v312 v313 v314 v315 v316 v317 v318 v319 v320 v321 v322 v323 v324 v325 v326 v327 v328 v329 v330 v331 v332 v333 v334 v335 v336 v337 v338 v339 v340 v341 v342 v343 v344 v345 v346 v347 v348 v349 v350 v351 v352 v353 v354 v355 v356 v357 v358 v359 v360 v361 v362 v363 v364 v365 v366 v367 v368 v369 v370 v371 v372 v373 v374 v375 v376 v377 v378 v379 v380 v381 v382 v383 v384 v385 v386 v387 v388 v389 v390 v391 v392 v393 v394 v395 v396 v397 v398 v399 v400 v401 v402 v403 v404 v405 v406 v407 v408 v409 v410 v411 v412 v413 v414 v415 v416 v417 v418 v419 v420 v421 v422 v423 v424 v425 v426 v427:Value),Qx .ret ⟨List.toArray (u0::.slice a1 m c1::.slice ac nl cap::.pointer (some ⟨bc,0,none⟩)::u4::u5::.bool true::u7::.pointer (some ⟨hx.g,0,none⟩)::v9::.pointer (some ⟨hy.g,0,none⟩)::v11::u12::v13::v14::v15::v16::v17::v18::v19::v20::v21::v22::v23::v24::v25::v26::v27::v28::v29::v30::v31::v32::v33::u34::u35::u36::u37::u38::u39::u40::u41::u42::u43::u44::u45::u46::u47::u48::u49::u50::u51::u52::u53::u54::u55::u56::u57::u58::u59::u60::u61::u62::u63::u64::u65::u66::u67::u68::u69::u70::u71::u72::u73::u74::u75::u76::u77::u78::u79::u80::u81::u82::u83::u84::u85::u86::u87::u88::u89::u90::u91::u92::u93::u94::u95::u96::u97::u98::u99::v100::v101::v102::v103::v104::v105::v106::v107::v108::v109::v110::v111::v112::v113::v114::v115::v116::v117::v118::v119::v120::v121::v122::v123::v124::v125::v126::v127::v128::v129::v130::v131::v132::v133::v134::v135::v136::v137::v138::v139::v140::v141::v142::v143::v144::v145::v146::v147::v148::v149::v150::v151::v152::v153::v154::v155::v156::v157::v158::v159::v160::v161::v162::v163::v164::v165::v166::v167::v168::v169::v170::v171::v172::v173::v174::v175::v176::v177::v178::v179::v180::v181::v182::v183::v184::v185::v186::v187::v188::v189::v190::v191::v192::v193::v194::v195::v196::v197::v198::v199::v200::v201::v202::v203::v204::v205::v206::v207::v208::v209::v210::v211::v212::v213::v214::v215::v216::v217::v218::v219::v220::v221::v222::v223::v224::v225::v226::v227::v228::v229::v230::v231::v232::v233::v234::v235::v236::v237::v238::v239::v240::v241::v242::v243::v244::v245::v246::v247::v248::v249::v250::v251::v252::v253::v254::v255::v256::v257::v258::v259::v260::v261::v262::v263::v264::v265::v266::v267::v268::v269::v270::v271::v272::v273::v274::v275::v276::v277::v278::v279::v280::v281::v282::v283::v284::v285::v286::v287::v288::v289::v290::v291::v292::v293::v294::v295::v296::v297::v298::v299::v300::v301::v302::v303::v304::v305::v306::v307::v308::v309::v310::v311::v312::v313::v314::v315::v316::v317::v318::v319::v320::v321::v322::v323::v324::v325::v326::v327::v328::v329::v330::v331::v332::v333::v334::v335::v336::v337::v338::v339::v340::v341::v342::v343::v344::v345::v346::v347::v348::v349::v350::v351::v352::v353::v354::v355::v356::v357::v358::v359::v360::v361::v362::v363::v364::v365::v366::v367::v368::v369::v370::v371::v372::v373::v374::v375::v376::v377::v378::v379::v380::v381::v382::v383::v384::v385::v386::v387::v388::v389::v390::v391::v392::v393::v394::v395::v396::v397::v398::v399::v400::v401::v402::v403::v404::v405::v406::v407::v408::v409::v410::v411::v412::v413::v414::v415::v416::v417::v418::v419::v420::v421::v422::v423::v424::v425::v426::v427::[]),[]⟩ w') :
  Code.wp Try.prog (rs 8 (Try.f4.body.getD .skip)) Qx ⟨List.toArray (u0::.slice a1 m c1::.slice ac nl cap::.pointer (some ⟨bc,0,none⟩)::u4::u5::u6::u7::.pointer (some ⟨hx.g,0,none⟩)::u9::.pointer (some ⟨hy.g,0,none⟩)::u11::u12::u13::u14::u15::u16::u17::u18::u19::u20::u21::u22::u23::u24::u25::u26::u27::u28::u29::u30::u31::u32::u33::u34::u35::u36::u37::u38::u39::u40::u41::u42::u43::u44::u45::u46::u47::u48::u49::u50::u51::u52::u53::u54::u55::u56::u57::u58::u59::u60::u61::u62::u63::u64::u65::u66::u67::u68::u69::u70::u71::u72::u73::u74::u75::u76::u77::u78::u79::u80::u81::u82::u83::u84::u85::u86::u87::u88::u89::u90::u91::u92::u93::u94::u95::u96::u97::u98::u99::u100::u101::u102::u103::u104::u105::u106::u107::u108::u109::u110::u111::u112::u113::u114::u115::u116::u117::u118::u119::u120::u121::u122::u123::u124::u125::u126::u127::u128::u129::u130::u131::u132::u133::u134::u135::u136::u137::u138::u139::u140::u141::u142::u143::u144::u145::u146::u147::u148::u149::u150::u151::u152::u153::u154::u155::u156::u157::u158::u159::u160::u161::u162::u163::u164::u165::u166::u167::u168::u169::u170::u171::u172::u173::u174::u175::u176::u177::u178::u179::u180::u181::u182::u183::u184::u185::u186::u187::u188::u189::u190::u191::u192::u193::u194::u195::u196::u197::u198::u199::u200::u201::u202::u203::u204::u205::u206::u207::u208::u209::u210::u211::u212::u213::u214::u215::u216::u217::u218::u219::u220::u221::u222::u223::u224::u225::u226::u227::u228::u229::u230::u231::u232::u233::u234::u235::u236::u237::u238::u239::u240::u241::u242::u243::u244::u245::u246::u247::u248::u249::u250::u251::u252::u253::u254::u255::u256::u257::u258::u259::u260::u261::u262::u263::u264::u265::u266::u267::u268::u269::u270::u271::u272::u273::u274::u275::u276::u277::u278::u279::u280::u281::u282::u283::u284::u285::u286::u287::u288::u289::u290::u291::u292::u293::u294::u295::u296::u297::u298::u299::u300::u301::u302::u303::u304::u305::u306::u307::u308::u309::u310::u311::u312::u313::u314::u315::u316::u317::u318::u319::u320::u321::u322::u323::u324::u325::u326::u327::u328::u329::u330::u331::u332::u333::u334::u335::u336::u337::u338::u339::u340::u341::u342::u343::u344::u345::u346::u347::u348::u349::u350::u351::u352::u353::u354::u355::u356::u357::u358::u359::u360::u361::u362::u363::u364::u365::u366::u367::u368::u369::u370::u371::u372::u373::u374::u375::u376::u377::u378::u379::u380::u381::u382::u383::u384::u385::u386::u387::u388::u389::u390::u391::u392::u393::u394::u395::u396::u397::u398::u399::u400::u401::u402::u403::u404::u405::u406::u407::u408::u409::u410::u411::u412::u413::u414::u415::u416::u417::u418::u419::u420::u421::u422::u423::u424::u425::u426::u427::[]),[]⟩ y:=by
 conv=>arg 2;whnf
 have HCm:=hid hcm
 have HBx:=hid hbx
 have HWs:=hid hws
 have HM:=hid hm
 have HCz:=hid hC
 have hnl2:nl≤140737488355328:=Nat.le_trans (Nat.le_mul_of_pos_right _ (by omega)) hnl
 have HNl:=hid hnl
 have HCb:=hid hcb
 have HCa:=hid hca
 have HX:=hid kx
 have HY:=hid ky
 have HPxx:=hid px
 have HPyy:=hid py
 have HMx:=hid mx
 have HMy:=hid my
 have HXb:=hid xb
 have HYb:=hid yb
 have HXy:=hid xy
 have HS0:=hid hs0
 have HPx:=hid hP
 have HK:=hid hK
 have HFit:Hid (Fit hx.p pl0):=by unfold Hid;rw [px];exact fit_new hcm hm hws.small
 have HCop1:=hid (copies_any (cap:=cap) hC hnl)
 clear hcm hbx hws hm hC hnl hcb hca kx ky px py mx my xb yb xy hs0 hP hK
 go_upto_region 13 with (first|(go_at_call 7;refine HCop1.out.mono ?_;rintro e p1 ⟨am,cm,XM,rfl,hbag,hmp,hsz,hb⟩;have HBg1:=hid hbag;have HMp1:=hid hmp;have HSz1:=hid hsz;have HB1:=hid hb;clear hbag hmp hsz hb))
 have HS1:Hid (∀U,Below p1.heap.size p1 U→R.Bx U bc c.L):=fun U hU=>R.Bx.later hU (R.Bx.later HB1.out HBx.out)
 obtain⟨a2,c2,p2,hrun,hws,-,hb⟩:=words_big (w:=p1.drew) ((HWs.out.later HB1.out).later (Below.refl _ _).drew) (by have:=HM.out;omega)
 have HRUN1:=hid hrun
 have HWs1:=hid hws
 have HB2:Hid (Below p1.heap.size p1 p2):=below_call (Below.refl _ _).drew hb
 clear hrun hws hb
 refine wp_region_held_drew (S:=(fun U:World=>R.Bx U bc c.L)) (by kernel_rfl) (HS1.out _ (Below.refl _ _).drew) (fun hHeld=>?_)
 refine wpAnyH_norm (l2:=#[false,false,false,false,false,false,false,false,false,false,false]) (f2:=11) (by kernel_rfl) (by kernel_rfl) ?_
 refine wpAnyH_take (i:=0) (oi:=_) (v:=c.v) rfl (by kernel_rfl) (by kernel_rfl) (by kernel_rfl) (fun _ _ _ h=>HPx.out _ _ _ _ _ h) (Or.inl ⟨by rfl,?_⟩) (by assumption) ?_
 ·(intro w hSw;(try dsimp only at hSw);exact ex_ld rfl rfl (ldF hSw))
 simp only [List.getElem_toArray,List.getElem_cons_succ,List.getElem_cons_zero,Act.put,List.setIfInBounds_toArray,List.set_cons_zero,List.set_cons_succ]
 refine wpAnyH_norm (l2:=#[true,false,false,false,false,false,false,false,false,false,false]) (f2:=10) (by kernel_rfl) (by kernel_rfl) ?_
 refine wpAnyH_take (i:=2) (oi:=_) (v:=?_) rfl (by kernel_rfl) (by kernel_rfl) (by kernel_rfl) (fun _ _ _ h=>HPx.out _ _ _ _ _ h) (Or.inl ⟨by rfl,?_⟩) (by assumption) ?_
 rotate_left
 ·(intro w hSw;(try dsimp only at hSw);go_simp;try with_reducible rfl)
 simp only [List.getElem_toArray,List.getElem_cons_succ,List.getElem_cons_zero,Act.put,List.setIfInBounds_toArray,List.set_cons_zero,List.set_cons_succ]
 refine wpAnyH_norm (l2:=#[true,false,true,false,false,false,false,false,false,false,false]) (f2:=9) (by kernel_rfl) (by kernel_rfl) ?_
 refine wpAnyH_take (i:=4) (oi:=_) (v:=?_) rfl (by kernel_rfl) (by kernel_rfl) (by kernel_rfl) (fun _ _ _ h=>HPx.out _ _ _ _ _ h) (Or.inl ⟨by rfl,?_⟩) (by assumption) ?_
 rotate_left
 ·(intro w hSw;(try dsimp only at hSw);go_simp;try with_reducible rfl)
 simp only [List.getElem_toArray,List.getElem_cons_succ,List.getElem_cons_zero,Act.put,List.setIfInBounds_toArray,List.set_cons_zero,List.set_cons_succ]
 refine wpAnyH_norm (l2:=#[true,false,true,false,true,false,false,false,false,false,false]) (f2:=8) (by kernel_rfl) (by kernel_rfl) ?_
 refine wpAnyH_ready (rs:=[1]) (by kernel_rfl) (by simp) ?_
 refine AllReadyH.cons rfl (fun K hK=>?_) AllReadyH.nil
 go_simp
 refine hK.out _ _ (HS1.out _ ((Below.refl _ _).drew.alloc (Nat.le_refl _) _)) (fun hHeld=>?_)
 clear hK K
 simp only [List.getElem_toArray,List.getElem_cons_succ,List.getElem_cons_zero,Act.put,List.setIfInBounds_toArray,List.set_cons_zero,List.set_cons_succ]
 refine wpAnyH_norm (l2:=#[true,true,true,false,true,false,false,false,false,false,false]) (f2:=7) (by kernel_rfl) (by kernel_rfl) ?_
 refine wpAnyH_ready (rs:=[3]) (by kernel_rfl) (by simp) ?_
 refine AllReadyH.cons rfl (fun K hK=>?_) AllReadyH.nil
 refine wp_app (.tmp 104) (.tmp 105) 24 rfl _ _ rfl rfl _ p2 HRUN1.out ?_
 refine hK.out _ _ (HS1.out _ HB2.out) (fun hHeld=>?_)
 clear hK K
 simp only [List.getElem_toArray,List.getElem_cons_succ,List.getElem_cons_zero,Act.put,List.setIfInBounds_toArray,List.set_cons_zero,List.set_cons_succ]
 refine wpAnyH_norm (l2:=#[true,true,true,true,true,false,false,false,false,false,false]) (f2:=6) (by kernel_rfl) (by kernel_rfl) ?_
 refine wpAnyH_ready (rs:=[5]) (by kernel_rfl) (by simp) ?_
 refine AllReadyH.cons rfl (fun K hK=>?_) AllReadyH.nil
 have hcz2:=Bag.cz (HBg1.out.later kC_ok HB2.out) HSz1.out
 rw [HMp1.out] at hcz2
 have HRun1:=hid (run_ok c HCm.out HWs1.out HM.out cm hcz2 HNl.out)
 clear hcz2
 go_simp
 go_wp2_with (first|(go_at_call 6;refine HRun1.out.mono ?_;rintro e p3 ⟨al,cl,XL,rfl,hbag,hrep,hb⟩;have HBg2:=hid hbag;have HRp2:=hid hrep;have HB3:=hid hb;clear hbag hrep hb))
 refine hK.out _ _ (HS1.out _ (below_call HB2.out HB3.out)) (fun hHeld=>?_)
 clear hK K
 simp only [List.getElem_toArray,List.getElem_cons_succ,List.getElem_cons_zero,Act.put,List.setIfInBounds_toArray,List.set_cons_zero,List.set_cons_succ]
 refine wpAnyH_norm (l2:=#[true,true,true,true,true,true,false,false,false,false,false]) (f2:=5) (by kernel_rfl) (by kernel_rfl) ?_
 refine wpAnyH_take (i:=6) (oi:=_) (v:=?_) rfl (by kernel_rfl) (by kernel_rfl) (by kernel_rfl) (fun _ _ _ h=>HPx.out _ _ _ _ _ h) (Or.inl ⟨by rfl,?_⟩) (by assumption) ?_
 rotate_left
 ·(intro w hSw;(try dsimp only at hSw);go_simp;try with_reducible rfl)
 simp only [List.getElem_toArray,List.getElem_cons_succ,List.getElem_cons_zero,Act.put,List.setIfInBounds_toArray,List.set_cons_zero,List.set_cons_succ]
 refine wpAnyH_norm (l2:=#[true,true,true,true,true,true,true,false,false,false,false]) (f2:=4) (by kernel_rfl) (by kernel_rfl) ?_
 refine wpAnyH_take (i:=7) (oi:=_) (v:=?_) rfl (by kernel_rfl) (by kernel_rfl) (by kernel_rfl) (fun _ _ _ h=>HPx.out _ _ _ _ _ h) (Or.inl ⟨by rfl,?_⟩) (by assumption) ?_
 rotate_left
 ·(intro w hSw;(try dsimp only at hSw);go_simp;try with_reducible rfl)
 simp only [List.getElem_toArray,List.getElem_cons_succ,List.getElem_cons_zero,Act.put,List.setIfInBounds_toArray,List.set_cons_zero,List.set_cons_succ]
 refine wpAnyH_norm (l2:=#[true,true,true,true,true,true,true,true,false,false,false]) (f2:=3) (by kernel_rfl) (by kernel_rfl) ?_
 refine wpAnyH_take (i:=8) (oi:=_) (v:=?_) rfl (by kernel_rfl) (by kernel_rfl) (by kernel_rfl) (fun _ _ _ h=>HPx.out _ _ _ _ _ h) (Or.inl ⟨by rfl,?_⟩) (by assumption) ?_
 rotate_left
 ·(intro w hSw;(try dsimp only at hSw);go_simp;try with_reducible rfl)
 simp only [List.getElem_toArray,List.getElem_cons_succ,List.getElem_cons_zero,Act.put,List.setIfInBounds_toArray,List.set_cons_zero,List.set_cons_succ]
 refine wpAnyH_norm (l2:=#[true,true,true,true,true,true,true,true,true,false,false]) (f2:=2) (by kernel_rfl) (by kernel_rfl) ?_
 refine wpAnyH_take (i:=9) (oi:=_) (v:=?_) rfl (by kernel_rfl) (by kernel_rfl) (by kernel_rfl) (fun _ _ _ h=>HPx.out _ _ _ _ _ h) (Or.inl ⟨by rfl,?_⟩) (by assumption) ?_
 rotate_left
 ·(intro w hSw;(try dsimp only at hSw);go_simp;try with_reducible rfl)
 simp only [List.getElem_toArray,List.getElem_cons_succ,List.getElem_cons_zero,Act.put,List.setIfInBounds_toArray,List.set_cons_zero,List.set_cons_succ]
 refine wpAnyH_norm (l2:=#[true,true,true,true,true,true,true,true,true,true,false]) (f2:=1) (by kernel_rfl) (by kernel_rfl) ?_
 refine wpAnyH_take (i:=10) (oi:=_) (v:=?_) rfl (by kernel_rfl) (by kernel_rfl) (by kernel_rfl) (fun _ _ _ h=>HPx.out _ _ _ _ _ h) (Or.inl ⟨by rfl,?_⟩) (by assumption) ?_
 rotate_left
 ·(intro w hSw;(try dsimp only at hSw);go_simp;try with_reducible rfl)
 simp only [List.getElem_toArray,List.getElem_cons_succ,List.getElem_cons_zero,Act.put,List.setIfInBounds_toArray,List.set_cons_zero,List.set_cons_succ]
 refine wpAnyH_norm (l2:=#[true,true,true,true,true,true,true,true,true,true,true]) (f2:=0) (by kernel_rfl) (by kernel_rfl) ?_
 refine wpAnyH_done (by kernel_rfl) ?_ _
 have HB13:Hid (Below p1.heap.size p1 p3):=below_call HB2.out HB3.out
 have HS3:Hid (∀U,Below p3.heap.size p3 U→R.Bx U bc c.L):=fun U hU=>HS1.out U (below_call HB13.out hU)
 obtain⟨a4,c4,p4,hrun,hws,-,hb⟩:=words_big (w:=p3.drew) (((HWs.out.later HB1.out).later HB13.out).later (Below.refl _ _).drew) (by have:=HM.out;omega)
 have HRUN4:=hid hrun
 have HWs4:=hid hws
 have HB4:Hid (Below p3.heap.size p3 p4):=below_call (Below.refl _ _).drew hb
 have HCop4:=hid (copies_any (cap:=cap) (((HCz.out.later HB1.out).later HB13.out).later HB4.out) HNl.out)
 clear hrun hws hb
 go_upto_region 14 with fail
 refine wp_region_held_drew (S:=(fun U:World=>R.Bx U bc c.L)) (by kernel_rfl) (HS3.out _ (Below.refl _ _).drew) (fun hHeld=>?_)
 refine wpAnyH_norm (l2:=#[false,false,false,false,false,false,false,false,false,false,false,false]) (f2:=12) (by kernel_rfl) (by kernel_rfl) ?_
 refine wpAnyH_take (i:=0) (oi:=_) (v:=c.v) rfl (by kernel_rfl) (by kernel_rfl) (by kernel_rfl) (fun _ _ _ h=>HPx.out _ _ _ _ _ h) (Or.inl ⟨by rfl,?_⟩) (by assumption) ?_
 ·(intro w hSw;(try dsimp only at hSw);exact ex_ld rfl rfl (ldF hSw))
 simp only [List.getElem_toArray,List.getElem_cons_succ,List.getElem_cons_zero,Act.put,List.setIfInBounds_toArray,List.set_cons_zero,List.set_cons_succ]
 refine wpAnyH_norm (l2:=#[true,false,false,false,false,false,false,false,false,false,false,false]) (f2:=11) (by kernel_rfl) (by kernel_rfl) ?_
 refine wpAnyH_take (i:=2) (oi:=_) (v:=?_) rfl (by kernel_rfl) (by kernel_rfl) (by kernel_rfl) (fun _ _ _ h=>HPx.out _ _ _ _ _ h) (Or.inl ⟨by rfl,?_⟩) (by assumption) ?_
 rotate_left
 ·(intro w hSw;(try dsimp only at hSw);go_simp;try with_reducible rfl)
 simp only [List.getElem_toArray,List.getElem_cons_succ,List.getElem_cons_zero,Act.put,List.setIfInBounds_toArray,List.set_cons_zero,List.set_cons_succ]
 refine wpAnyH_norm (l2:=#[true,false,true,false,false,false,false,false,false,false,false,false]) (f2:=10) (by kernel_rfl) (by kernel_rfl) ?_
 refine wpAnyH_take (i:=4) (oi:=_) (v:=?_) rfl (by kernel_rfl) (by kernel_rfl) (by kernel_rfl) (fun _ _ _ h=>HPx.out _ _ _ _ _ h) (Or.inl ⟨by rfl,?_⟩) (by assumption) ?_
 rotate_left
 ·(intro w hSw;(try dsimp only at hSw);go_simp;try with_reducible rfl)
 simp only [List.getElem_toArray,List.getElem_cons_succ,List.getElem_cons_zero,Act.put,List.setIfInBounds_toArray,List.set_cons_zero,List.set_cons_succ]
 refine wpAnyH_norm (l2:=#[true,false,true,false,true,false,false,false,false,false,false,false]) (f2:=9) (by kernel_rfl) (by kernel_rfl) ?_
 refine wpAnyH_ready (rs:=[1]) (by kernel_rfl) (by simp) ?_
 refine AllReadyH.cons rfl (fun K hK=>?_) AllReadyH.nil
 go_simp
 refine hK.out _ _ (HS3.out _ ((Below.refl _ _).drew.alloc (Nat.le_refl _) _)) (fun hHeld=>?_)
 clear hK K
 simp only [List.getElem_toArray,List.getElem_cons_succ,List.getElem_cons_zero,Act.put,List.setIfInBounds_toArray,List.set_cons_zero,List.set_cons_succ]
 refine wpAnyH_norm (l2:=#[true,true,true,false,true,false,false,false,false,false,false,false]) (f2:=8) (by kernel_rfl) (by kernel_rfl) ?_
 refine wpAnyH_ready (rs:=[3]) (by kernel_rfl) (by simp) ?_
 refine AllReadyH.cons rfl (fun K hK=>?_) AllReadyH.nil
 refine wp_app (.tmp 113) (.tmp 114) 24 rfl _ _ rfl rfl _ p4 HRUN4.out ?_
 refine hK.out _ _ (HS3.out _ HB4.out) (fun hHeld=>?_)
 clear hK K
 simp only [List.getElem_toArray,List.getElem_cons_succ,List.getElem_cons_zero,Act.put,List.setIfInBounds_toArray,List.set_cons_zero,List.set_cons_succ]
 refine wpAnyH_norm (l2:=#[true,true,true,true,true,false,false,false,false,false,false,false]) (f2:=7) (by kernel_rfl) (by kernel_rfl) ?_
 refine wpAnyH_ready (rs:=[5]) (by kernel_rfl) (by simp) ?_
 refine AllReadyH.cons rfl (fun K hK=>?_) AllReadyH.nil
 go_simp
 go_wp2_with (first|(go_at_call 7;refine HCop4.out.mono ?_;rintro e p5 ⟨a5,c5,X5,rfl,hbag,hmp,hsz,hb⟩;have HBg5:=hid hbag;have HMp5:=hid hmp;have HSz5:=hid hsz;have HB5:=hid hb;clear hbag hmp hsz hb))
 refine hK.out _ _ (HS3.out _ (below_call HB4.out HB5.out)) (fun hHeld=>?_)
 clear hK K
 simp only [List.getElem_toArray,List.getElem_cons_succ,List.getElem_cons_zero,Act.put,List.setIfInBounds_toArray,List.set_cons_zero,List.set_cons_succ]
 refine wpAnyH_norm (l2:=#[true,true,true,true,true,true,false,false,false,false,false,false]) (f2:=6) (by kernel_rfl) (by kernel_rfl) ?_
 refine wpAnyH_ready (rs:=[6]) (by kernel_rfl) (by simp) ?_
 refine AllReadyH.cons rfl (fun K hK=>?_) AllReadyH.nil
 have hcz2:=Bag.cz HBg5.out HSz5.out
 rw [HMp5.out] at hcz2
 have HRun5:=hid (run_ok c HCm.out (HWs4.out.later HB5.out) HM.out c5 hcz2 HNl.out)
 clear hcz2
 go_simp
 go_wp2_with (first|(go_at_call 6;refine HRun5.out.mono ?_;rintro e p6 ⟨ak,ck,XK,rfl,hbag,hrep,hb⟩;have HBg6:=hid hbag;have HRp6:=hid hrep;have HB6:=hid hb;clear hbag hrep hb))
 refine hK.out _ _ (HS3.out _ (below_call (below_call HB4.out HB5.out) HB6.out)) (fun hHeld=>?_)
 clear hK K
 simp only [List.getElem_toArray,List.getElem_cons_succ,List.getElem_cons_zero,Act.put,List.setIfInBounds_toArray,List.set_cons_zero,List.set_cons_succ]
 refine wpAnyH_norm (l2:=#[true,true,true,true,true,true,true,false,false,false,false,false]) (f2:=5) (by kernel_rfl) (by kernel_rfl) ?_
 refine wpAnyH_take (i:=7) (oi:=_) (v:=?_) rfl (by kernel_rfl) (by kernel_rfl) (by kernel_rfl) (fun _ _ _ h=>HPx.out _ _ _ _ _ h) (Or.inl ⟨by rfl,?_⟩) (by assumption) ?_
 rotate_left
 ·(intro w hSw;(try dsimp only at hSw);go_simp;try with_reducible rfl)
 simp only [List.getElem_toArray,List.getElem_cons_succ,List.getElem_cons_zero,Act.put,List.setIfInBounds_toArray,List.set_cons_zero,List.set_cons_succ]
 refine wpAnyH_norm (l2:=#[true,true,true,true,true,true,true,true,false,false,false,false]) (f2:=4) (by kernel_rfl) (by kernel_rfl) ?_
 refine wpAnyH_take (i:=8) (oi:=_) (v:=?_) rfl (by kernel_rfl) (by kernel_rfl) (by kernel_rfl) (fun _ _ _ h=>HPx.out _ _ _ _ _ h) (Or.inl ⟨by rfl,?_⟩) (by assumption) ?_
 rotate_left
 ·(intro w hSw;(try dsimp only at hSw);go_simp;try with_reducible rfl)
 simp only [List.getElem_toArray,List.getElem_cons_succ,List.getElem_cons_zero,Act.put,List.setIfInBounds_toArray,List.set_cons_zero,List.set_cons_succ]
 refine wpAnyH_norm (l2:=#[true,true,true,true,true,true,true,true,true,false,false,false]) (f2:=3) (by kernel_rfl) (by kernel_rfl) ?_
 refine wpAnyH_take (i:=9) (oi:=_) (v:=?_) rfl (by kernel_rfl) (by kernel_rfl) (by kernel_rfl) (fun _ _ _ h=>HPx.out _ _ _ _ _ h) (Or.inl ⟨by rfl,?_⟩) (by assumption) ?_
 rotate_left
 ·(intro w hSw;(try dsimp only at hSw);go_simp;try with_reducible rfl)
 simp only [List.getElem_toArray,List.getElem_cons_succ,List.getElem_cons_zero,Act.put,List.setIfInBounds_toArray,List.set_cons_zero,List.set_cons_succ]
 refine wpAnyH_norm (l2:=#[true,true,true,true,true,true,true,true,true,true,false,false]) (f2:=2) (by kernel_rfl) (by kernel_rfl) ?_
 refine wpAnyH_take (i:=10) (oi:=_) (v:=?_) rfl (by kernel_rfl) (by kernel_rfl) (by kernel_rfl) (fun _ _ _ h=>HPx.out _ _ _ _ _ h) (Or.inl ⟨by rfl,?_⟩) (by assumption) ?_
 rotate_left
 ·(intro w hSw;(try dsimp only at hSw);go_simp;try with_reducible rfl)
 simp only [List.getElem_toArray,List.getElem_cons_succ,List.getElem_cons_zero,Act.put,List.setIfInBounds_toArray,List.set_cons_zero,List.set_cons_succ]
 refine wpAnyH_norm (l2:=#[true,true,true,true,true,true,true,true,true,true,true,false]) (f2:=1) (by kernel_rfl) (by kernel_rfl) ?_
 refine wpAnyH_take (i:=11) (oi:=_) (v:=?_) rfl (by kernel_rfl) (by kernel_rfl) (by kernel_rfl) (fun _ _ _ h=>HPx.out _ _ _ _ _ h) (Or.inl ⟨by rfl,?_⟩) (by assumption) ?_
 rotate_left
 ·(intro w hSw;(try dsimp only at hSw);go_simp;try with_reducible rfl)
 simp only [List.getElem_toArray,List.getElem_cons_succ,List.getElem_cons_zero,Act.put,List.setIfInBounds_toArray,List.set_cons_zero,List.set_cons_succ]
 refine wpAnyH_norm (l2:=#[true,true,true,true,true,true,true,true,true,true,true,true]) (f2:=0) (by kernel_rfl) (by kernel_rfl) ?_
 refine wpAnyH_done (by kernel_rfl) ?_ _
 have HB36:Hid (Below p3.heap.size p3 p6):=below_call (below_call HB4.out HB5.out) HB6.out
 have HB16:Hid (Below p1.heap.size p1 p6):=below_call HB13.out HB36.out
 have HBy6:Hid (Below y.heap.size y p6):=below_call HB1.out HB16.out
 have hk0:K0 p6 hx hy Nx Ny C D' G' ac am al ak nl cm cl ck XM XL XK s0 y.heap.size p1.heap.size p3.heap.size:=by
  have e1:=HB1.out.size
  have e2:=HB13.out.size
  have e3:=HB36.out.size
  have e4:=HB2.out.size
  have e5:p3.heap.size≤p5.heap.size:=Nat.le_trans HB4.out.size HB5.out.size
  have hs0:=HS0.out
  exact {
   c:=HCz.out.later HBy6.out
   cb:=HCb.out
   ca:=HCa.out
   m:=HBg1.out.later kC_ok HB16.out
   mc:=HMp1.out
   ml:=fun j hj=>(HBg1.out.rng kC_ok j hj).2
   l:=(HBg2.out.later kR_ok HB36.out).mono kR_ok e4
   lr:=by rw [HPxx.out];exact HRp2.out
   ll:=fun j hj=>(HBg2.out.rng kR_ok j hj).2
   k:=HBg6.out.mono kR_ok e5
   kr:=by rw [HPxx.out];exact HRp6.out
   xx:=HX.out.later HBy6.out
   yy:=HY.out.later HBy6.out
   f:=HFit.out
   p:=by rw [HPxx.out,HPyy.out]
   mx:=HMx.out
   my:=HMy.out
   xb:=fun j hj=>⟨HXb.out j hj,HX.out.lt j hj⟩
   yb:=fun j hj=>⟨HYb.out j hj,HY.out.lt j hj⟩
   xy:=HXy.out
   ss:=⟨hs0,e1,e2,e3⟩ }
 have HK0:=hid hk0
 clear hk0
 go_upto_block 2 with fail
 go_cut [6,16,17,18,19,20,21,22,23,24,25] from 141 to 306 (fun _ _ _ _ _ _ _ _ _ _ _ U=>∃bx lx by_ ly Mx My,Kz p6 U hx hy C XM XL s0 y.heap.size nl bx lx by_ ly Mx My)
 case first =>
  refine kp_loop HK0.out hnl2 (fun c a d v w h=>by first|exact HPx.out _ _ _ _ _ h|(cases d<;>exact h)) ?_
  intro bx lx by_ ly Mx My w9 hkz
  intros
  go_wp2
  go_meet
  exact⟨_,_,_,_,_,_,hkz⟩
 case rest =>
 rename World=>U9
 obtain⟨bx,lx,by_,ly,Mx,My,hkz⟩:=hcut
 have HKz:=hid hkz
 clear hkz
 rename (∀(a:Act) (w:World),Code.wp Try.prog _ _ a w→_)=>hKK
 refine hKK _ _ ?_
 refine kp_end (hx:={ hx with bo:=bx,bl:=lx }) (hy:={ hy with bo:=by_,bl:=ly }) HKz.out.xx HKz.out.yy HKz.out.f (show Fit hy.p _ from HK0.out.p ▸ HKz.out.f) HKz.out.t (fun c a d v w h=>by first|exact HPx.out _ _ _ _ _ h|(cases d<;>exact h)) ?_
 intro w9 hb9
 intros
 refine HK.out _ ?_ ..
 refine ((But.of HBy6.out).comp HKz.out.b (fun j e=>?_)).call hb9
 rcases e with e|⟨m_,hm_,⟨x_,hx_,e⟩|⟨x_,hx_,e⟩⟩
 ·exact .inl e.1
 ·right
  have:=(HK0.out.m.rng kC_ok j (.inr ⟨x_,List.mem_of_getElem? hx_,e⟩)).1
  omega
 ·right
  have:=(HK0.out.l.rng kR_ok j (.inr ⟨x_,List.mem_of_getElem? hx_,e⟩)).1
  have:=HB1.out.size
  omega
end
end Go.Proofs.Ytffmodpgddecnaa.V.E
