import Derived.Test.YtaffgoacbiedlaaFX
namespace Go.Proofs.Ytaffgoacbiedlaa
open Go.RowKit
set_option linter.unusedVariables false
set_option linter.unusedSimpArgs false
theorem blk_lt {w : World} {a : Option Addr} {n cap : Nat} {L : List Nat} (h : Row w a n cap L) (hn : 0 < n) : ∀ k, Blk a k → k < w.heap.size := fun k hk => by
  obtain ⟨b, o, e, hc⟩ := h.plain hn
  obtain ⟨x, hx, rfl⟩ := hk
  rw [e] at hx
  cases hx
  exact World.block_lt_of_cell? _ _ (hc 0 (by have := h.len; omega))
set_option maxRecDepth 1000000 in
set_option maxHeartbeats 8000000 in
theorem fr_16 {u0 u1 u2 u3 u4 u12 u14 u16 u19 u20 u21 u22 u23 u24 u25 u26 u27 u28 u29 u30 u31 u32 u33 u34 u35 u36 u37 u38 u39 u40 u41 u42 u43 u44 u45 u46 u47 u48 u49 u50 u51 u52 u53 u54 u55 u56 u57 u58 u59 u60 u61 u62 u63 u64 u65 u66 u67 u68 u69 u70 u71 u72 u73 u74 u75 u76 u77 u78 u79 u80 u81 u82 u83 u84 u85 u86 u87 u88 u89 u90 u91 u92 u93 u94 u95 u96 u97 u98 u99 u100 u101 u102 u103 u104 u105 u106 u107 u108 u109 u110 u111 u112 u113 u114 u115 u116 u117 u118 u119 u120 u121 u122 u123 u124 u125 u126 u127 u128 u129 u130 u131 u132 u133 u134 u135 u136 u137 u138 u139 u140 u141 u142 u143 u144 u145 u146 u147 u148 u149 u150 u151 u152 u153 u154 u155 u156 u157 u158 u159 u160 u161 u162 u163 u164 u165 u166 u167 u168 u169 u170 u171 u172 u173 u174 u175 u176 u177 u178 u179 u180 u181 u182 u183 u184 u185 u186 u187 u188 u189 u190 u191 u192 u193 u194 u195 u196 u197 u198 u199 u200 u201 u202 u203 u204 u205 u206 u207 u208 u209 u210 u211 u212 u213 u214 u215 u216 u217 u218 u219 u220 u221 u222 u223 u224 u225 u226 u227 u228 u229 u230 u231 u232 u233 u234 u235 u236 u237 u238 u239 u240 u241 u242 u243 u244 u245 u246 u247 u248 u249 u250 u251 u252 u253 u254 u255 u256 u257 u258 u259 u260 u261 u262 u263 u264 u265 u266 u267 u268 u269 u270 u271 u272 u273 u274 u275 u276 u277 u278 u279 u280 u281 u282 u283 u284 u285 u286 u287 u288 u289 u290 u291 u292 u293 u294 u295 u296 u297 u298 u299 u300 u301 u302 u303 u304 u305 u306 u307 u308 u309 u310 u311 u312 u313 u314 u315 u316 u317 u318 u319 u320 u321 u322 u323 u324 u325 u326 u327 u328 u329 u330 u331 u332 u333 u334 u335 u336 u337 u338 u339 u340 u341 u342 u343 u344 u345 u346 u347 u348 u349 u350 u351 u352 u353 u354 u355 u356 u357 u358 u359 u360 u361 u362 u363 u364 u365 u366 u367 u368 u369 u370 u371 u372 u373 u374 u375 u376 u377 u378 u379 u380 u381 u382 u383 u384 u385 u386 u387 u388 u389 u390 u391 u392 u393 u394 u395 u396 u397 u398 u399 u400 u401 u402 u403 u404 u405 u406 u407 u408 u409 u410 u411 u412 u413 u414 u415 u416 u417 u418 u419 u420 : Value} {Qx : Exit → Act → World → Prop} {w W : World} {r bo bp nn mm : Nat} {Mo Mp : List Value} {o p : Cl} {ra : Option Addr} {rc : Nat} {ga : Option Addr} {gc : Nat} (hba : Ba w W r bo bp Mo Mp o p ra rc ga gc) (hnn : o.data.length = nn) (hmm : p.gifts.length = mm) (S1 S2 : ByteArray) (aa ab ag : Option Addr) (na ca nb cb ng cg ra0 ra1 rb1 rg1 : Nat) (hA : Lo W ra0 ra1 aa na ca (ly o)) (hB : Lo W ra1 rb1 ab nb cb (ly o)) (hG : Lo W rb1 rg1 ag ng cg (ly p)) (hr0 : r ≤ ra0) (hS1 : S1 = strB (ly o)) (hS2 : S2 = strB (ly p))
    (hK : ∀ (w' : World), Below w.heap.size w w' → ∀ (v11 v15 v19 v20 v21 v22 v23 v24 v25 v26 v27 v28 v29 v30 v31 v32 v33 v34 v35 v36 v37 v38 v39 v40 v41 v42 v43 v44 v45 v46 v47 v48 v49 v50 v51 v52 v53 v54 v55 v56 v57 v58 v59 v60 v61 v62 v63 v64 v65 v66 v67 v68 v69 v70 v71 v72 v73 v74 v75 v76 v77 v78 v79 v80 v81 v82 v83 v84 v85 v86 v87 v88 v89 v90 v91 v92 v93 v94 v95 v96 v97 v98 v99 v100 v101 v102 v103 v104 v105 v106 v107 v108 v109 v110 v111 v112 v113 v114 v115 v116 v117 v118 v119 v120 v121 v122 v123 v124 v125 v126 v127 v128 v129 v130 v131 v132 v133 v134 v135 v136 v137 v138 v139 v140 v141 v142 v143 v144 v145 v146 v147 v148 v149 v150 v151 v152 v153 v154 v155 v156 v157 v158 v159 v160 v161 v162 v163 v164 v165 v166 v167 v168 v169 v170 v171 v172 v173 v174 v175 v176 v177 v178 v179 v180 v181 v182 v183 v184 v185 v186 v187 v188 v189 v190 v191 v192 v193 v194 v195 v196 v197 v198 v199 v200 v201 v202 v203 v204 v205 v206 v207 v208 v209 v210 v211 v212 v213 v214 v215 v216 v217 v218 v219 v220 v221 v222 v223 v224 v225 v226 v227 v228 v229 v230 v231 v232 v233 v234 v235 v236 v237 v238 v239 v240 v241 v242 v243 v244 v245 v246 v247 v248 v249 v250 v251 v252 v253 v254 v255 v256 v257 v258 v259 v260 v261 v262 v263 v264 v265 v266 v267 v268 v269 v270 v271 v272 v273 v274 v275 v276 v277 v278 v279 v280 v281 v282 v283 v284 v285 v286 v287 v288 v289 v290 v291 v292 v293 v294 v295 v296 v297 v298 v299 v300 v301 v302 v303 v304 v305 v306 v307 v308 v309 v310 v311 v312 v313 v314 v315 v316 v317 v318 v319 v320 v321 v322 v323 v324 v325 v326 v327 v328 v329 v330 v331 v332 v333 v334 v335 v336 v337 v338 v339 v340 v341 v342 v343 v344 v345 v346 v347 v348 v349 v350 v351 v352 v353 v354 v355 v356 v357 v358 v359 v360 v361 v362 v363 v364 v365 v366 v367 v368 v369 v370 v371 v372 v373 v374 v375 v376 v377 v378 v379 v380 v381 v382 v383 v384 v385 v386 v387 v388 v389 v390 v391 v392 v393 v394 v395 v396 v397 v398 v399 v400 v401 v402 v403 v404 v405 v406 v407 v408 v409 v410 v411 v412 v413 v414 v415 v416 v417 v418 v419 v420 : Value), Qx .ret ⟨List.toArray (u0 :: u1 :: u2 :: u3 :: .bool true :: .pointer (some ⟨bo, 0, none⟩) :: .pointer (some ⟨bp, 0, none⟩) :: .slice ra (nn + 4) rc :: .slice ga (mm + 3) gc :: .int .i64 (nn : Int) :: .int .i64 (mm : Int) :: v11 :: u12 :: .slice ab nb cb :: u14 :: v15 :: u16 :: .string S1 :: .string S2 :: v19 :: v20 :: v21 :: v22 :: v23 :: v24 :: v25 :: v26 :: v27 :: v28 :: v29 :: v30 :: v31 :: v32 :: v33 :: v34 :: v35 :: v36 :: v37 :: v38 :: v39 :: v40 :: v41 :: v42 :: v43 :: v44 :: v45 :: v46 :: v47 :: v48 :: v49 :: v50 :: v51 :: v52 :: v53 :: v54 :: v55 :: v56 :: v57 :: v58 :: v59 :: v60 :: v61 :: v62 :: v63 :: v64 :: v65 :: v66 :: v67 :: v68 :: v69 :: v70 :: v71 :: v72 :: v73 :: v74 :: v75 :: v76 :: v77 :: v78 :: v79 :: v80 :: v81 :: v82 :: v83 :: v84 :: v85 :: v86 :: v87 :: v88 :: v89 :: v90 :: v91 :: v92 :: v93 :: v94 :: v95 :: v96 :: v97 :: v98 :: v99 :: v100 :: v101 :: v102 :: v103 :: v104 :: v105 :: v106 :: v107 :: v108 :: v109 :: v110 :: v111 :: v112 :: v113 :: v114 :: v115 :: v116 :: v117 :: v118 :: v119 :: v120 :: v121 :: v122 :: v123 :: v124 :: v125 :: v126 :: v127 :: v128 :: v129 :: v130 :: v131 :: v132 :: v133 :: v134 :: v135 :: v136 :: v137 :: v138 :: v139 :: v140 :: v141 :: v142 :: v143 :: v144 :: v145 :: v146 :: v147 :: v148 :: v149 :: v150 :: v151 :: v152 :: v153 :: v154 :: v155 :: v156 :: v157 :: v158 :: v159 :: v160 :: v161 :: v162 :: v163 :: v164 :: v165 :: v166 :: v167 :: v168 :: v169 :: v170 :: v171 :: v172 :: v173 :: v174 :: v175 :: v176 :: v177 :: v178 :: v179 :: v180 :: v181 :: v182 :: v183 :: v184 :: v185 :: v186 :: v187 :: v188 :: v189 :: v190 :: v191 :: v192 :: v193 :: v194 :: v195 :: v196 :: v197 :: v198 :: v199 :: v200 :: v201 :: v202 :: v203 :: v204 :: v205 :: v206 :: v207 :: v208 :: v209 :: v210 :: v211 :: v212 :: v213 :: v214 :: v215 :: v216 :: v217 :: v218 :: v219 :: v220 :: v221 :: v222 :: v223 :: v224 :: v225 :: v226 :: v227 :: v228 :: v229 :: v230 :: v231 :: v232 :: v233 :: v234 :: v235 :: v236 :: v237 :: v238 :: v239 :: v240 :: v241 :: v242 :: v243 :: v244 :: v245 :: v246 :: v247 :: v248 :: v249 :: v250 :: v251 :: v252 :: v253 :: v254 :: v255 :: v256 :: v257 :: v258 :: v259 :: v260 :: v261 :: v262 :: v263 :: v264 :: v265 :: v266 :: v267 :: v268 :: v269 :: v270 :: v271 :: v272 :: v273 :: v274 :: v275 :: v276 :: v277 :: v278 :: v279 :: v280 :: v281 :: v282 :: v283 :: v284 :: v285 :: v286 :: v287 :: v288 :: v289 :: v290 :: v291 :: v292 :: v293 :: v294 :: v295 :: v296 :: v297 :: v298 :: v299 :: v300 :: v301 :: v302 :: v303 :: v304 :: v305 :: v306 :: v307 :: v308 :: v309 :: v310 :: v311 :: v312 :: v313 :: v314 :: v315 :: v316 :: v317 :: v318 :: v319 :: v320 :: v321 :: v322 :: v323 :: v324 :: v325 :: v326 :: v327 :: v328 :: v329 :: v330 :: v331 :: v332 :: v333 :: v334 :: v335 :: v336 :: v337 :: v338 :: v339 :: v340 :: v341 :: v342 :: v343 :: v344 :: v345 :: v346 :: v347 :: v348 :: v349 :: v350 :: v351 :: v352 :: v353 :: v354 :: v355 :: v356 :: v357 :: v358 :: v359 :: v360 :: v361 :: v362 :: v363 :: v364 :: v365 :: v366 :: v367 :: v368 :: v369 :: v370 :: v371 :: v372 :: v373 :: v374 :: v375 :: v376 :: v377 :: v378 :: v379 :: v380 :: v381 :: v382 :: v383 :: v384 :: v385 :: v386 :: v387 :: v388 :: v389 :: v390 :: v391 :: v392 :: v393 :: v394 :: v395 :: v396 :: v397 :: v398 :: v399 :: v400 :: v401 :: v402 :: v403 :: v404 :: v405 :: v406 :: v407 :: v408 :: v409 :: v410 :: v411 :: v412 :: v413 :: v414 :: v415 :: v416 :: v417 :: v418 :: v419 :: v420 :: []), []⟩ w') :
    Code.wp Try.prog (rs 15 (Try.f5.body.getD .skip)) Qx ⟨List.toArray (u0 :: u1 :: u2 :: u3 :: u4 :: .pointer (some ⟨bo, 0, none⟩) :: .pointer (some ⟨bp, 0, none⟩) :: .slice ra (nn + 4) rc :: .slice ga (mm + 3) gc :: .int .i64 (nn : Int) :: .int .i64 (mm : Int) :: .slice aa na ca :: u12 :: .slice ab nb cb :: u14 :: .slice ag ng cg :: u16 :: .string S1 :: .string S2 :: u19 :: u20 :: u21 :: u22 :: u23 :: u24 :: u25 :: u26 :: u27 :: u28 :: u29 :: u30 :: u31 :: u32 :: u33 :: u34 :: u35 :: u36 :: u37 :: u38 :: u39 :: u40 :: u41 :: u42 :: u43 :: u44 :: u45 :: u46 :: u47 :: u48 :: u49 :: u50 :: u51 :: u52 :: u53 :: u54 :: u55 :: u56 :: u57 :: u58 :: u59 :: u60 :: u61 :: u62 :: u63 :: u64 :: u65 :: u66 :: u67 :: u68 :: u69 :: u70 :: u71 :: u72 :: u73 :: u74 :: u75 :: u76 :: u77 :: u78 :: u79 :: u80 :: u81 :: u82 :: u83 :: u84 :: u85 :: u86 :: u87 :: u88 :: u89 :: u90 :: u91 :: u92 :: u93 :: u94 :: u95 :: u96 :: u97 :: u98 :: u99 :: u100 :: u101 :: u102 :: u103 :: u104 :: u105 :: u106 :: u107 :: u108 :: u109 :: u110 :: u111 :: u112 :: u113 :: u114 :: u115 :: u116 :: u117 :: u118 :: u119 :: u120 :: u121 :: u122 :: u123 :: u124 :: u125 :: u126 :: u127 :: u128 :: u129 :: u130 :: u131 :: u132 :: u133 :: u134 :: u135 :: u136 :: u137 :: u138 :: u139 :: u140 :: u141 :: u142 :: u143 :: u144 :: u145 :: u146 :: u147 :: u148 :: u149 :: u150 :: u151 :: u152 :: u153 :: u154 :: u155 :: u156 :: u157 :: u158 :: u159 :: u160 :: u161 :: u162 :: u163 :: u164 :: u165 :: u166 :: u167 :: u168 :: u169 :: u170 :: u171 :: u172 :: u173 :: u174 :: u175 :: u176 :: u177 :: u178 :: u179 :: u180 :: u181 :: u182 :: u183 :: u184 :: u185 :: u186 :: u187 :: u188 :: u189 :: u190 :: u191 :: u192 :: u193 :: u194 :: u195 :: u196 :: u197 :: u198 :: u199 :: u200 :: u201 :: u202 :: u203 :: u204 :: u205 :: u206 :: u207 :: u208 :: u209 :: u210 :: u211 :: u212 :: u213 :: u214 :: u215 :: u216 :: u217 :: u218 :: u219 :: u220 :: u221 :: u222 :: u223 :: u224 :: u225 :: u226 :: u227 :: u228 :: u229 :: u230 :: u231 :: u232 :: u233 :: u234 :: u235 :: u236 :: u237 :: u238 :: u239 :: u240 :: u241 :: u242 :: u243 :: u244 :: u245 :: u246 :: u247 :: u248 :: u249 :: u250 :: u251 :: u252 :: u253 :: u254 :: u255 :: u256 :: u257 :: u258 :: u259 :: u260 :: u261 :: u262 :: u263 :: u264 :: u265 :: u266 :: u267 :: u268 :: u269 :: u270 :: u271 :: u272 :: u273 :: u274 :: u275 :: u276 :: u277 :: u278 :: u279 :: u280 :: u281 :: u282 :: u283 :: u284 :: u285 :: u286 :: u287 :: u288 :: u289 :: u290 :: u291 :: u292 :: u293 :: u294 :: u295 :: u296 :: u297 :: u298 :: u299 :: u300 :: u301 :: u302 :: u303 :: u304 :: u305 :: u306 :: u307 :: u308 :: u309 :: u310 :: u311 :: u312 :: u313 :: u314 :: u315 :: u316 :: u317 :: u318 :: u319 :: u320 :: u321 :: u322 :: u323 :: u324 :: u325 :: u326 :: u327 :: u328 :: u329 :: u330 :: u331 :: u332 :: u333 :: u334 :: u335 :: u336 :: u337 :: u338 :: u339 :: u340 :: u341 :: u342 :: u343 :: u344 :: u345 :: u346 :: u347 :: u348 :: u349 :: u350 :: u351 :: u352 :: u353 :: u354 :: u355 :: u356 :: u357 :: u358 :: u359 :: u360 :: u361 :: u362 :: u363 :: u364 :: u365 :: u366 :: u367 :: u368 :: u369 :: u370 :: u371 :: u372 :: u373 :: u374 :: u375 :: u376 :: u377 :: u378 :: u379 :: u380 :: u381 :: u382 :: u383 :: u384 :: u385 :: u386 :: u387 :: u388 :: u389 :: u390 :: u391 :: u392 :: u393 :: u394 :: u395 :: u396 :: u397 :: u398 :: u399 :: u400 :: u401 :: u402 :: u403 :: u404 :: u405 :: u406 :: u407 :: u408 :: u409 :: u410 :: u411 :: u412 :: u413 :: u414 :: u415 :: u416 :: u417 :: u418 :: u419 :: u420 :: []), []⟩ W := by
  conv => arg 2; whnf
  obtain ⟨Z, hZl, hZo, hZz, hz⟩ := zero41
  have hZ0 : (Z.toArray = #[]) = False := by simp; intro h; rw [h] at hZl; simp at hZl
  clear hZz hZo
  have HK := hid hK
  have HBA := hid hba
  have HNN := hid hnn
  have HMM := hid hmm
  have HL := hid (And.intro hA (And.intro hB hG))
  have HR0 := hid hr0
  have HS := hid (And.intro hS1 hS2)
  have hn1 : nn ≤ 1025 := by rw [← hnn]; exact fm_data hba.fo
  have hm1 : mm ≤ 255 := by rw [← hmm]; exact fm_gifts hba.fp
  have hl1 : (ly o).length ≤ 100000 := by rw [ly_len]; exact lenC_le hba.fo
  have hl2 : (ly p).length ≤ 100000 := by rw [ly_len]; exact lenC_le hba.fp
  obtain ⟨cE, wE, wa, wc0, wF, hcv1, hap1, hrw1, hbk1, hbl1⟩ := wide_any (ly o) hA.ow.small hl1 W
  obtain ⟨cE2, wE2, la, lc, wG, hcv2, hap2, hrw2, hbk2, hbl2⟩ := wide_any (ly p) hG.ow.small hl2 wF
  rw [← hS1] at hcv1
  rw [← hS2] at hcv2
  have sz1 : S1.size = (ly o).length := by rw [hS1, strB_size]
  have sz2 : S2.size = (ly p).length := by rw [hS2, strB_size]
  obtain ⟨k1, hk1⟩ : ∃ k1, (ly o).length = k1 := ⟨_, rfl⟩
  obtain ⟨k2, hk2⟩ : ∃ k2, (ly p).length = k2 := ⟨_, rfl⟩
  rw [hk1] at hcv1 hap1 hrw1 sz1 hl1
  rw [hk2] at hcv2 hap2 hrw2 sz2 hl2
  have HW1 := hid hrw1
  have HW2 := hid hrw2
  have HAP1 := hid hap1
  have HAP2 := hid hap2
  have HBK := hid (And.intro hbk1 hbk2)
  have HBF := hid hbl1
  have HBG := hid (below_call hbl1 hbl2)
  have HFG := hid hbl2
  have HKK := hid (And.intro hk1 hk2)
  clear hK hba hnn hmm hA hB hG hr0 hS1 hS2 hap1 hap2 hrw1 hrw2 hbk1 hbk2 hbl1 hbl2 hk1 hk2
  have mk0 := hid True.intro
  go_upto_region 18 with (first
    | (clear mk0; at_builtin; refine wpList_append_known rfl _ _ 28 rfl _ _ rfl rfl _ wF HAP1.out ?_; have mk1 := hid True.intro)
    | (clear mk1; at_builtin; refine wpList_append_known rfl _ _ 28 rfl _ _ rfl rfl _ wG HAP2.out ?_; have mk2 := hid True.intro))
  have sl1 := slice_hi wa (k1 + 3) wc0 k1 (by have := HW1.out.cap_; omega)
  have sl2 := slice_hi la (k2 + 3) lc k2 (by have := HW2.out.cap_; omega)
  have HT1 : Hid (Row wG wa k1 wc0 (ly o)) := by
    have := (HW1.out.later HFG.out).take k1 (by omega) ((HW1.out.later HFG.out).none_len k1 (by omega))
    rw [List.take_left' HKK.out.1] at this
    exact this
  have HT2 : Hid (Row wG la k2 lc (ly p)) := by
    have := HW2.out.take k2 (by omega) (HW2.out.none_len k2 (by omega))
    rw [List.take_left' HKK.out.2] at this
    exact this
  have HPO := hid (ps_lay HBA.out.fo HBA.out.ho.1 HBA.out.ho.2)
  have HPP := hid (ps_lay HBA.out.fp HBA.out.hp.1 HBA.out.hp.2)
  have mk3 := hid True.intro
  go_upto_region 22 with (first
    | (clear mk3; go_at_call 16; refine (parse_some wa k1 wc0 (ly o) _ HT1.out (by omega) HPO.out).mono ?_; rintro e w1 ⟨L21, rfl, hc1, hb1⟩; have l21 := hc1.len; obtain ⟨w2, hst2, hx2, hb2⟩ := store_new w1 (Z := Z) (t := 41) (l21.trans hZl.symm) hc1.one; have HC21 := hid (hc1.later hb2); have HX21 := hid hx2; have HZ1 := hid (And.intro hb1.size (And.intro (hx2.lt (by omega)) hb2.size)); have HC1 := hid hc1; have HB1 := hid (below_call hb1 hb2); have HBB1 := hid hb2; clear hc1 hb1 hx2 hb2; have mk4 := hid True.intro)
    | (clear mk4; go_at_call 16; refine (parse_some wa k1 wc0 (ly o) _ (HT1.out.later HB1.out) (by omega) HPO.out).mono ?_; rintro e w3 ⟨L23, rfl, hc3, hb3⟩; have l23 := hc3.len; obtain ⟨w4, hst4, hx4, hb4⟩ := store_new w3 (Z := Z) (t := 41) (l23.trans hZl.symm) hc3.one; have HX23 := hid hx4; have HZ3 := hid (And.intro hb3.size (And.intro (hx4.lt (by omega)) hb4.size)); have HC3 := hid hc3; have HBB3 := hid hb4; have HB24 := hid (below_call hb3 hb4); have HB3 := hid (below_call HB1.out (below_call hb3 hb4)); clear hc3 hb3 hx4 hb4; have mk5 := hid True.intro)
    | (clear mk5; go_at_call 16; refine (parse_some la k2 lc (ly p) _ (HT2.out.later HB3.out) (by omega) HPP.out).mono ?_; rintro e w5 ⟨L25, rfl, hc5, hb5⟩; have l25 := hc5.len; obtain ⟨w6, hst6, hx6, hb6⟩ := store_new w5 (Z := Z) (t := 41) (l25.trans hZl.symm) hc5.one; have HX25 := hid hx6; have HZ5 := hid (And.intro hb5.size (And.intro (hx6.lt (by omega)) hb6.size)); have HC5 := hid hc5; have HBB5 := hid hb6; have HB46 := hid (below_call hb5 hb6); have HB5 := hid (below_call HB3.out (below_call hb5 hb6)); clear hc5 hb5 hx6 hb6; have mk6 := hid True.intro)
    | (clear mk6; go_at_call 16; refine (parse_some la k2 lc (ly p) _ (HT2.out.later HB5.out) (by omega) HPP.out).mono ?_; rintro e w7 ⟨L27, rfl, hc7, hb7⟩; have l27 := hc7.len; obtain ⟨w8, hst8, hx8, hb8⟩ := store_new w7 (Z := Z) (t := 41) (l27.trans hZl.symm) hc7.one; have HX27 := hid hx8; have HZ7 := hid (And.intro hb7.size (And.intro (hx8.lt (by omega)) hb8.size)); have HC7 := hid hc7; have HBB7 := hid hb8; have HB68 := hid (below_call hb7 hb8); have HB7 := hid (below_call HB5.out (below_call hb7 hb8)); clear hc7 hb7 hx8 hb8; have mk7 := hid True.intro))
  obtain ⟨⟨ax, nx, cx⟩, gx, ex, hox, _, _, _⟩ := HC1.out.ex
  obtain ⟨⟨ay, ny, cy⟩, gy, ey, hoy, _, _, _⟩ := HC3.out.ex
  obtain ⟨dz, ⟨az, nz, cz⟩, ez, _, hoz, _, _⟩ := HC5.out.ex
  obtain ⟨du, ⟨au, nu, cu⟩, eu, _, hou, _, _⟩ := HC7.out.ex
  have HE : Hid (L21[10]? = some (.slice ax nx cx) ∧ L23[10]? = some (.slice ay ny cy) ∧ L25[12]? = some (.slice az nz cz) ∧ L27[12]? = some (.slice au nu cu)) := ⟨by rw [ex]; rfl, by rw [ey]; rfl, by rw [ez]; rfl, by rw [eu]; rfl⟩
  have B48 : Hid (Below w4.heap.size w4 w8) := below_call HB46.out HB68.out
  have B28 : Hid (Below w2.heap.size w2 w8) := below_call HB24.out B48.out
  have HX : Hid (Lo w8 wG.heap.size w1.heap.size ax nx cx o.data) := ((Lo.new hox HZ1.out.1).later HBB1.out).later B28.out
  have HY : Hid (Lo w8 w2.heap.size w3.heap.size ay ny cy o.data) := ((Lo.new hoy HZ3.out.1).later HBB3.out).later B48.out
  have HZ : Hid (Li w8 w4.heap.size w5.heap.size az nz cz p.gifts) := ((Li.new hoz HZ5.out.1).later HBB5.out).later HB68.out
  have HU : Hid (Li w8 w6.heap.size w7.heap.size au nu cu p.gifts) := (Li.new hou HZ7.out.1).later HBB7.out
  have HCC : Hid (Cc w8 L21 o ∧ Cc w8 L23 o ∧ Cc w8 L25 p ∧ Cc w8 L27 p) := ⟨(HC21.out.later B28.out).cc, ((HC3.out.later HBB3.out).later B48.out).cc, ((HC5.out.later HBB5.out).later HB68.out).cc, (HC7.out.later HBB7.out).cc⟩
  have HXX : Hid (Bx w8 w1.heap.size L21 ∧ Bx w8 w3.heap.size L23 ∧ Bx w8 w5.heap.size L25 ∧ Bx w8 w7.heap.size L27) := ⟨HX21.out.later B28.out, HX23.out.later B48.out, HX25.out.later HB68.out, HX27.out⟩
  have HBW : Hid (Below W.heap.size W w8) := below_call HBG.out HB7.out
  have HBA8 := hid (HBA.out.later HBW.out)
  have lmo : Mo.length = 13 := HBA.out.co.len
  have lmp : Mp.length = 13 := HBA.out.cp.len
  have HG1 : Hid (o.gifts.length ≤ 17592186044416) := by have := fm_gifts HBA.out.fo; unfold Hid; omega
  have HG2 : Hid (p.gifts.length ≤ 17592186044416) := by have := fm_gifts HBA.out.fp; unfold Hid; omega
  have HSO := hid (smB_self o)
  have HSP := hid (smB_self p)
  have HR1 := hid (ld41 HXX.out.1.range l21)
  have HR1b := hid (ld41 HBA8.out.xo.range lmo)
  clear ex ey ez eu hox hoy hoz hou sl1 sl2
  have mk8 := hid True.intro
  go_upto_region 24 with (first
    | ((with_reducible refine ld_armg HR1.out ?_ ?_ ?_); (· rfl); (· rfl))
    | ((with_reducible refine ld_armg HR1b.out ?_ ?_ ?_); (· rfl); (· rfl))
    | ((with_reducible refine ld_armg HR2.out ?_ ?_ ?_); (· rfl); (· rfl))
    | ((with_reducible refine ld_armg HR2b.out ?_ ?_ ?_); (· rfl); (· rfl))
    | ((with_reducible refine ld_armg HR3.out ?_ ?_ ?_); (· rfl); (· rfl))
    | ((with_reducible refine ld_armg HR3b.out ?_ ?_ ?_); (· rfl); (· rfl))
    | ((with_reducible refine ld_armg HR4.out ?_ ?_ ?_); (· rfl); (· rfl))
    | ((with_reducible refine ld_armg HR4b.out ?_ ?_ ?_); (· rfl); (· rfl))
    | (clear mk8; go_at_call 17; refine (same_any L21 Mo o o _ HCC.out.1 HBA8.out.co HG1.out).mono ?_; rintro e w9 ⟨rfl, hb9⟩; rw [HSO.out]; have HN2 := hid hb9; have HR2 := hid (ld41 (HXX.out.2.1.later HN2.out).range l23); have HR2b := hid (ld41 (HBA8.out.xo.later HN2.out).range lmo); clear hb9; have mk9 := hid True.intro)
    | (clear mk9; go_at_call 17; refine (same_any L23 Mo o o _ (HCC.out.2.1.later HN2.out) (HBA8.out.co.later HN2.out) HG1.out).mono ?_; rintro e w10 ⟨rfl, hb10⟩; rw [HSO.out]; have HN3 := hid (below_call HN2.out hb10); have HR3 := hid (ld41 (HXX.out.2.2.1.later HN3.out).range l25); have HR3b := hid (ld41 (HBA8.out.xp.later HN3.out).range lmp); clear hb10; have mkA := hid True.intro)
    | (clear mkA; go_at_call 17; refine (same_any L25 Mp p p _ (HCC.out.2.2.1.later HN3.out) (HBA8.out.cp.later HN3.out) HG2.out).mono ?_; rintro e w11 ⟨rfl, hb11⟩; rw [HSP.out]; have HN4 := hid (below_call HN3.out hb11); have HR4 := hid (ld41 (HXX.out.2.2.2.later HN4.out).range l27); have HR4b := hid (ld41 (HBA8.out.xp.later HN4.out).range lmp); clear hb11; have mkB := hid True.intro)
    | (clear mkB; go_at_call 17; refine (same_any L27 Mp p p _ (HCC.out.2.2.2.later HN4.out) (HBA8.out.cp.later HN4.out) HG2.out).mono ?_; rintro e w12 ⟨rfl, hb12⟩; rw [HSP.out]; have HN5 := hid (below_call HN4.out hb12); clear hb12; have mkC := hid True.intro))
  have HBAc := hid (HBA8.out.later HN5.out)
  have x10 := HBAc.out.xo.cell 10 HBAc.out.mo10
  rw [HNN.out] at x10
  obtain ⟨m9, hm9⟩ : ∃ m9, min nn 1024 = m9 := ⟨_, rfl⟩
  have em : (if (1024 : Int) < (nn : Int) then (1024 : Int) else (nn : Int)) = (m9 : Int) := by split <;> omega
  have sl9 := slice_hi ra nn rc m9 (by have := HBAc.out.ro.read.cap_; have := HNN.out; omega)
  have hm9n : m9 ≤ nn := by omega
  have HM9 := hid hm9
  clear hm9
  go_upto_region 25 with fail
  obtain ⟨wr, hwr⟩ : ∃ W', W' = w12.alloc (Obj.cells #[.int .i64 0, .int .i64 0, .int .u64 0, .int .u64 0, .slice ra m9 rc, .int .i64 0] 30) := ⟨_, rfl⟩
  rw [← hwr]
  have hx29 : Bx wr w12.heap.size (rC (rpO o) ⟨ra, m9, rc⟩) := by rw [hwr]; exact Bx.new w12 (rC (rpO o) ⟨ra, m9, rc⟩) 30
  have hbr : Below w12.heap.size w12 wr := by rw [hwr]; exact below1 _ _
  have HX29 := hid hx29
  have HBR := hid hbr
  have HBAr := hid (HBAc.out.later hbr)
  have hR9 := HBAr.out.rr
  rw [HNN.out, HM9.out] at hR9
  have HR9 := hid hR9
  have HLR := hid (ld30 hx29.range rfl)
  obtain ⟨S3, hS3⟩ : ∃ S3, S3 = strB (rly 5 (rpO o)) := ⟨_, rfl⟩
  have HS3 := hid hS3
  clear hwr hx29 hbr hR9 x10 em sl9 hm9n hS3
  go_upto_region 26 with (first
    | ((with_reducible refine ld_arm HLR.out ?_ ?_); (· rfl))
    | (go_at_call 10; refine (answer_ok 5 (rC (rpO o) ⟨ra, m9, rc⟩) (rpO o) _ HR9.out (rpO_fm o)).mono ?_; rintro e w13 ⟨aq, nq, cq, rfl, hown13, hb13⟩; have HQ := hid (Lo.new hown13 hb13.size); have HB13 := hid hb13; have cvq := hown13.read.conv; rw [← HS3.out] at cvq; clear hown13 hb13))
  go_cut [32] from 37 (fun s W' => s = .string S3 ∧ W' = w13)
  case first =>
    go_wp2
    go_meet
    exact ⟨rfl, rfl⟩
  case rest =>
    obtain ⟨rfl, rfl⟩ := hcut
    have TR : Below w8.heap.size w8 wc := below_call (below_call HN5.out HBR.out) HB13.out
    have TW : Below W.heap.size W wc := below_call HBW.out TR
    first | go_upon | go_back | go_step
    refine fr_27 (HBAr.out.later HB13.out) HNN.out HMM.out w1.heap.size w3.heap.size w5.heap.size w7.heap.size w12.heap.size L21 L23 L25 L27 S1 S2 S3 wa la aa ab ag aq ax ay az au k1 wc0 k2 lc na ca nb cb ng cg nq cq nx cx ny cy nz cz nu cu ra0 ra1 rb1 rg1 wG.heap.size wG.heap.size w1.heap.size w2.heap.size w3.heap.size w4.heap.size w5.heap.size w6.heap.size w7.heap.size wr.heap.size wc.heap.size
      (HL.out.1.later TW) (HL.out.2.1.later TW) (HL.out.2.2.later TW) ((HW1.out.later HFG.out).later (below_call HB7.out TR)) (HW2.out.later (below_call HB7.out TR)) (fun k hk => ⟨?_, ?_⟩) (fun k hk => ⟨?_, ?_⟩) (HXX.out.1.later TR) (HXX.out.2.1.later TR) (HXX.out.2.2.1.later TR) (HXX.out.2.2.2.later TR) (by rw [HM9.out]; exact HX29.out.later HB13.out) ⟨l21, HE.out.1⟩ ⟨l23, HE.out.2.1⟩ ⟨l25, HE.out.2.2.1⟩ ⟨l27, HE.out.2.2.2⟩ (HX.out.later TR) (HY.out.later TR) (HZ.out.later TR) (HU.out.later TR) HQ.out ?_ HS.out.1 HS.out.2 HS3.out ?_
    · have := HBK.out.1 k hk; have := HL.out.2.2.le; omega
    · have h1 := blk_lt HW1.out (by omega) k hk
      have := HFG.out.size
      omega
    · have := HBK.out.2 k hk; have := HL.out.2.2.le; have := HBF.out.size; omega
    · exact blk_lt HW2.out (by omega) k hk
    · have q1 := HL.out.2.2.le
      have q2 := HBG.out.size
      have q3 := HZ1.out
      have q4 := HZ3.out
      have q5 := HZ5.out
      have q6 := HZ7.out
      have q7 := HN5.out.size
      have q8 := HX29.out.lt (by simp [rC])
      have q9 := HR0.out
      have q10 := HX27.out.lt (by omega)
      omega
    · intro w' hW
      intros
      exact HK.out _ hW ..
end Go.Proofs.Ytaffgoacbiedlaa
namespace Go.Proofs.Ytaffgoacbiedlaa
open Go.RowKit
set_option linter.unusedVariables false
set_option linter.unusedSimpArgs false
set_option maxRecDepth 1000000 in
set_option maxHeartbeats 8000000 in
theorem fr_9 {u0 u1 u2 u3 u4 u11 u12 u13 u14 u15 u16 u17 u18 u19 u20 u21 u22 u23 u24 u25 u26 u27 u28 u29 u30 u31 u32 u33 u34 u35 u36 u37 u38 u39 u40 u41 u42 u43 u44 u45 u46 u47 u48 u49 u50 u51 u52 u53 u54 u55 u56 u57 u58 u59 u60 u61 u62 u63 u64 u65 u66 u67 u68 u69 u70 u71 u72 u73 u74 u75 u76 u77 u78 u79 u80 u81 u82 u83 u84 u85 u86 u87 u88 u89 u90 u91 u92 u93 u94 u95 u96 u97 u98 u99 u100 u101 u102 u103 u104 u105 u106 u107 u108 u109 u110 u111 u112 u113 u114 u115 u116 u117 u118 u119 u120 u121 u122 u123 u124 u125 u126 u127 u128 u129 u130 u131 u132 u133 u134 u135 u136 u137 u138 u139 u140 u141 u142 u143 u144 u145 u146 u147 u148 u149 u150 u151 u152 u153 u154 u155 u156 u157 u158 u159 u160 u161 u162 u163 u164 u165 u166 u167 u168 u169 u170 u171 u172 u173 u174 u175 u176 u177 u178 u179 u180 u181 u182 u183 u184 u185 u186 u187 u188 u189 u190 u191 u192 u193 u194 u195 u196 u197 u198 u199 u200 u201 u202 u203 u204 u205 u206 u207 u208 u209 u210 u211 u212 u213 u214 u215 u216 u217 u218 u219 u220 u221 u222 u223 u224 u225 u226 u227 u228 u229 u230 u231 u232 u233 u234 u235 u236 u237 u238 u239 u240 u241 u242 u243 u244 u245 u246 u247 u248 u249 u250 u251 u252 u253 u254 u255 u256 u257 u258 u259 u260 u261 u262 u263 u264 u265 u266 u267 u268 u269 u270 u271 u272 u273 u274 u275 u276 u277 u278 u279 u280 u281 u282 u283 u284 u285 u286 u287 u288 u289 u290 u291 u292 u293 u294 u295 u296 u297 u298 u299 u300 u301 u302 u303 u304 u305 u306 u307 u308 u309 u310 u311 u312 u313 u314 u315 u316 u317 u318 u319 u320 u321 u322 u323 u324 u325 u326 u327 u328 u329 u330 u331 u332 u333 u334 u335 u336 u337 u338 u339 u340 u341 u342 u343 u344 u345 u346 u347 u348 u349 u350 u351 u352 u353 u354 u355 u356 u357 u358 u359 u360 u361 u362 u363 u364 u365 u366 u367 u368 u369 u370 u371 u372 u373 u374 u375 u376 u377 u378 u379 u380 u381 u382 u383 u384 u385 u386 u387 u388 u389 u390 u391 u392 u393 u394 u395 u396 u397 u398 u399 u400 u401 u402 u403 u404 u405 u406 u407 u408 u409 u410 u411 u412 u413 u414 u415 u416 u417 u418 u419 u420 : Value} {Qx : Exit → Act → World → Prop} {w W : World} {r bo bp nn mm : Nat} {Mo Mp : List Value} {o p : Cl} {ra : Option Addr} {rc : Nat} {ga : Option Addr} {gc : Nat} (hba : Ba w W r bo bp Mo Mp o p ra rc ga gc) (hnn : o.data.length = nn) (hmm : p.gifts.length = mm)
    (hK : ∀ (w' : World), Below w.heap.size w w' → ∀ (v11 v12 v13 v14 v15 v16 v17 v18 v19 v20 v21 v22 v23 v24 v25 v26 v27 v28 v29 v30 v31 v32 v33 v34 v35 v36 v37 v38 v39 v40 v41 v42 v43 v44 v45 v46 v47 v48 v49 v50 v51 v52 v53 v54 v55 v56 v57 v58 v59 v60 v61 v62 v63 v64 v65 v66 v67 v68 v69 v70 v71 v72 v73 v74 v75 v76 v77 v78 v79 v80 v81 v82 v83 v84 v85 v86 v87 v88 v89 v90 v91 v92 v93 v94 v95 v96 v97 v98 v99 v100 v101 v102 v103 v104 v105 v106 v107 v108 v109 v110 v111 v112 v113 v114 v115 v116 v117 v118 v119 v120 v121 v122 v123 v124 v125 v126 v127 v128 v129 v130 v131 v132 v133 v134 v135 v136 v137 v138 v139 v140 v141 v142 v143 v144 v145 v146 v147 v148 v149 v150 v151 v152 v153 v154 v155 v156 v157 v158 v159 v160 v161 v162 v163 v164 v165 v166 v167 v168 v169 v170 v171 v172 v173 v174 v175 v176 v177 v178 v179 v180 v181 v182 v183 v184 v185 v186 v187 v188 v189 v190 v191 v192 v193 v194 v195 v196 v197 v198 v199 v200 v201 v202 v203 v204 v205 v206 v207 v208 v209 v210 v211 v212 v213 v214 v215 v216 v217 v218 v219 v220 v221 v222 v223 v224 v225 v226 v227 v228 v229 v230 v231 v232 v233 v234 v235 v236 v237 v238 v239 v240 v241 v242 v243 v244 v245 v246 v247 v248 v249 v250 v251 v252 v253 v254 v255 v256 v257 v258 v259 v260 v261 v262 v263 v264 v265 v266 v267 v268 v269 v270 v271 v272 v273 v274 v275 v276 v277 v278 v279 v280 v281 v282 v283 v284 v285 v286 v287 v288 v289 v290 v291 v292 v293 v294 v295 v296 v297 v298 v299 v300 v301 v302 v303 v304 v305 v306 v307 v308 v309 v310 v311 v312 v313 v314 v315 v316 v317 v318 v319 v320 v321 v322 v323 v324 v325 v326 v327 v328 v329 v330 v331 v332 v333 v334 v335 v336 v337 v338 v339 v340 v341 v342 v343 v344 v345 v346 v347 v348 v349 v350 v351 v352 v353 v354 v355 v356 v357 v358 v359 v360 v361 v362 v363 v364 v365 v366 v367 v368 v369 v370 v371 v372 v373 v374 v375 v376 v377 v378 v379 v380 v381 v382 v383 v384 v385 v386 v387 v388 v389 v390 v391 v392 v393 v394 v395 v396 v397 v398 v399 v400 v401 v402 v403 v404 v405 v406 v407 v408 v409 v410 v411 v412 v413 v414 v415 v416 v417 v418 v419 v420 : Value), Qx .ret ⟨List.toArray (u0 :: u1 :: u2 :: u3 :: .bool true :: .pointer (some ⟨bo, 0, none⟩) :: .pointer (some ⟨bp, 0, none⟩) :: .slice ra (nn + 4) rc :: .slice ga (mm + 3) gc :: .int .i64 (nn : Int) :: .int .i64 (mm : Int) :: v11 :: v12 :: v13 :: v14 :: v15 :: v16 :: v17 :: v18 :: v19 :: v20 :: v21 :: v22 :: v23 :: v24 :: v25 :: v26 :: v27 :: v28 :: v29 :: v30 :: v31 :: v32 :: v33 :: v34 :: v35 :: v36 :: v37 :: v38 :: v39 :: v40 :: v41 :: v42 :: v43 :: v44 :: v45 :: v46 :: v47 :: v48 :: v49 :: v50 :: v51 :: v52 :: v53 :: v54 :: v55 :: v56 :: v57 :: v58 :: v59 :: v60 :: v61 :: v62 :: v63 :: v64 :: v65 :: v66 :: v67 :: v68 :: v69 :: v70 :: v71 :: v72 :: v73 :: v74 :: v75 :: v76 :: v77 :: v78 :: v79 :: v80 :: v81 :: v82 :: v83 :: v84 :: v85 :: v86 :: v87 :: v88 :: v89 :: v90 :: v91 :: v92 :: v93 :: v94 :: v95 :: v96 :: v97 :: v98 :: v99 :: v100 :: v101 :: v102 :: v103 :: v104 :: v105 :: v106 :: v107 :: v108 :: v109 :: v110 :: v111 :: v112 :: v113 :: v114 :: v115 :: v116 :: v117 :: v118 :: v119 :: v120 :: v121 :: v122 :: v123 :: v124 :: v125 :: v126 :: v127 :: v128 :: v129 :: v130 :: v131 :: v132 :: v133 :: v134 :: v135 :: v136 :: v137 :: v138 :: v139 :: v140 :: v141 :: v142 :: v143 :: v144 :: v145 :: v146 :: v147 :: v148 :: v149 :: v150 :: v151 :: v152 :: v153 :: v154 :: v155 :: v156 :: v157 :: v158 :: v159 :: v160 :: v161 :: v162 :: v163 :: v164 :: v165 :: v166 :: v167 :: v168 :: v169 :: v170 :: v171 :: v172 :: v173 :: v174 :: v175 :: v176 :: v177 :: v178 :: v179 :: v180 :: v181 :: v182 :: v183 :: v184 :: v185 :: v186 :: v187 :: v188 :: v189 :: v190 :: v191 :: v192 :: v193 :: v194 :: v195 :: v196 :: v197 :: v198 :: v199 :: v200 :: v201 :: v202 :: v203 :: v204 :: v205 :: v206 :: v207 :: v208 :: v209 :: v210 :: v211 :: v212 :: v213 :: v214 :: v215 :: v216 :: v217 :: v218 :: v219 :: v220 :: v221 :: v222 :: v223 :: v224 :: v225 :: v226 :: v227 :: v228 :: v229 :: v230 :: v231 :: v232 :: v233 :: v234 :: v235 :: v236 :: v237 :: v238 :: v239 :: v240 :: v241 :: v242 :: v243 :: v244 :: v245 :: v246 :: v247 :: v248 :: v249 :: v250 :: v251 :: v252 :: v253 :: v254 :: v255 :: v256 :: v257 :: v258 :: v259 :: v260 :: v261 :: v262 :: v263 :: v264 :: v265 :: v266 :: v267 :: v268 :: v269 :: v270 :: v271 :: v272 :: v273 :: v274 :: v275 :: v276 :: v277 :: v278 :: v279 :: v280 :: v281 :: v282 :: v283 :: v284 :: v285 :: v286 :: v287 :: v288 :: v289 :: v290 :: v291 :: v292 :: v293 :: v294 :: v295 :: v296 :: v297 :: v298 :: v299 :: v300 :: v301 :: v302 :: v303 :: v304 :: v305 :: v306 :: v307 :: v308 :: v309 :: v310 :: v311 :: v312 :: v313 :: v314 :: v315 :: v316 :: v317 :: v318 :: v319 :: v320 :: v321 :: v322 :: v323 :: v324 :: v325 :: v326 :: v327 :: v328 :: v329 :: v330 :: v331 :: v332 :: v333 :: v334 :: v335 :: v336 :: v337 :: v338 :: v339 :: v340 :: v341 :: v342 :: v343 :: v344 :: v345 :: v346 :: v347 :: v348 :: v349 :: v350 :: v351 :: v352 :: v353 :: v354 :: v355 :: v356 :: v357 :: v358 :: v359 :: v360 :: v361 :: v362 :: v363 :: v364 :: v365 :: v366 :: v367 :: v368 :: v369 :: v370 :: v371 :: v372 :: v373 :: v374 :: v375 :: v376 :: v377 :: v378 :: v379 :: v380 :: v381 :: v382 :: v383 :: v384 :: v385 :: v386 :: v387 :: v388 :: v389 :: v390 :: v391 :: v392 :: v393 :: v394 :: v395 :: v396 :: v397 :: v398 :: v399 :: v400 :: v401 :: v402 :: v403 :: v404 :: v405 :: v406 :: v407 :: v408 :: v409 :: v410 :: v411 :: v412 :: v413 :: v414 :: v415 :: v416 :: v417 :: v418 :: v419 :: v420 :: []), []⟩ w') :
    Code.wp Try.prog (rs 9 (Try.f5.body.getD .skip)) Qx ⟨List.toArray (u0 :: u1 :: u2 :: u3 :: u4 :: .pointer (some ⟨bo, 0, none⟩) :: .pointer (some ⟨bp, 0, none⟩) :: .slice ra (nn + 4) rc :: .slice ga (mm + 3) gc :: .int .i64 (nn : Int) :: .int .i64 (mm : Int) :: u11 :: u12 :: u13 :: u14 :: u15 :: u16 :: u17 :: u18 :: u19 :: u20 :: u21 :: u22 :: u23 :: u24 :: u25 :: u26 :: u27 :: u28 :: u29 :: u30 :: u31 :: u32 :: u33 :: u34 :: u35 :: u36 :: u37 :: u38 :: u39 :: u40 :: u41 :: u42 :: u43 :: u44 :: u45 :: u46 :: u47 :: u48 :: u49 :: u50 :: u51 :: u52 :: u53 :: u54 :: u55 :: u56 :: u57 :: u58 :: u59 :: u60 :: u61 :: u62 :: u63 :: u64 :: u65 :: u66 :: u67 :: u68 :: u69 :: u70 :: u71 :: u72 :: u73 :: u74 :: u75 :: u76 :: u77 :: u78 :: u79 :: u80 :: u81 :: u82 :: u83 :: u84 :: u85 :: u86 :: u87 :: u88 :: u89 :: u90 :: u91 :: u92 :: u93 :: u94 :: u95 :: u96 :: u97 :: u98 :: u99 :: u100 :: u101 :: u102 :: u103 :: u104 :: u105 :: u106 :: u107 :: u108 :: u109 :: u110 :: u111 :: u112 :: u113 :: u114 :: u115 :: u116 :: u117 :: u118 :: u119 :: u120 :: u121 :: u122 :: u123 :: u124 :: u125 :: u126 :: u127 :: u128 :: u129 :: u130 :: u131 :: u132 :: u133 :: u134 :: u135 :: u136 :: u137 :: u138 :: u139 :: u140 :: u141 :: u142 :: u143 :: u144 :: u145 :: u146 :: u147 :: u148 :: u149 :: u150 :: u151 :: u152 :: u153 :: u154 :: u155 :: u156 :: u157 :: u158 :: u159 :: u160 :: u161 :: u162 :: u163 :: u164 :: u165 :: u166 :: u167 :: u168 :: u169 :: u170 :: u171 :: u172 :: u173 :: u174 :: u175 :: u176 :: u177 :: u178 :: u179 :: u180 :: u181 :: u182 :: u183 :: u184 :: u185 :: u186 :: u187 :: u188 :: u189 :: u190 :: u191 :: u192 :: u193 :: u194 :: u195 :: u196 :: u197 :: u198 :: u199 :: u200 :: u201 :: u202 :: u203 :: u204 :: u205 :: u206 :: u207 :: u208 :: u209 :: u210 :: u211 :: u212 :: u213 :: u214 :: u215 :: u216 :: u217 :: u218 :: u219 :: u220 :: u221 :: u222 :: u223 :: u224 :: u225 :: u226 :: u227 :: u228 :: u229 :: u230 :: u231 :: u232 :: u233 :: u234 :: u235 :: u236 :: u237 :: u238 :: u239 :: u240 :: u241 :: u242 :: u243 :: u244 :: u245 :: u246 :: u247 :: u248 :: u249 :: u250 :: u251 :: u252 :: u253 :: u254 :: u255 :: u256 :: u257 :: u258 :: u259 :: u260 :: u261 :: u262 :: u263 :: u264 :: u265 :: u266 :: u267 :: u268 :: u269 :: u270 :: u271 :: u272 :: u273 :: u274 :: u275 :: u276 :: u277 :: u278 :: u279 :: u280 :: u281 :: u282 :: u283 :: u284 :: u285 :: u286 :: u287 :: u288 :: u289 :: u290 :: u291 :: u292 :: u293 :: u294 :: u295 :: u296 :: u297 :: u298 :: u299 :: u300 :: u301 :: u302 :: u303 :: u304 :: u305 :: u306 :: u307 :: u308 :: u309 :: u310 :: u311 :: u312 :: u313 :: u314 :: u315 :: u316 :: u317 :: u318 :: u319 :: u320 :: u321 :: u322 :: u323 :: u324 :: u325 :: u326 :: u327 :: u328 :: u329 :: u330 :: u331 :: u332 :: u333 :: u334 :: u335 :: u336 :: u337 :: u338 :: u339 :: u340 :: u341 :: u342 :: u343 :: u344 :: u345 :: u346 :: u347 :: u348 :: u349 :: u350 :: u351 :: u352 :: u353 :: u354 :: u355 :: u356 :: u357 :: u358 :: u359 :: u360 :: u361 :: u362 :: u363 :: u364 :: u365 :: u366 :: u367 :: u368 :: u369 :: u370 :: u371 :: u372 :: u373 :: u374 :: u375 :: u376 :: u377 :: u378 :: u379 :: u380 :: u381 :: u382 :: u383 :: u384 :: u385 :: u386 :: u387 :: u388 :: u389 :: u390 :: u391 :: u392 :: u393 :: u394 :: u395 :: u396 :: u397 :: u398 :: u399 :: u400 :: u401 :: u402 :: u403 :: u404 :: u405 :: u406 :: u407 :: u408 :: u409 :: u410 :: u411 :: u412 :: u413 :: u414 :: u415 :: u416 :: u417 :: u418 :: u419 :: u420 :: []), []⟩ W := by
  conv => arg 2; whnf
  have HK := hid hK
  have HBA := hid hba
  have HNN := hid hnn
  have HMM := hid hmm
  have lmo : Mo.length = 13 := hba.co.len
  have lmp : Mp.length = 13 := hba.cp.len
  have HL1 := hid (ld41 hba.xo.range lmo)
  obtain ⟨S1, hS1⟩ : ∃ S, S = strB (ly o) := ⟨_, rfl⟩
  obtain ⟨S2, hS2⟩ : ∃ S, S = strB (ly p) := ⟨_, rfl⟩
  have HS := hid (And.intro hS1 hS2)
  clear hK hba hnn hmm hS1 hS2
  have mk0 := hid True.intro
  go_upto_region 15 with (first
    | ((with_reducible refine ld_arm HL1.out ?_ ?_); (· rfl))
    | ((with_reducible refine ld_arm HL2.out ?_ ?_); (· rfl))
    | ((with_reducible refine ld_arm HL3.out ?_ ?_); (· rfl))
    | (clear mk0; go_at_call 15; refine (bytes_ok Mo o _ HBA.out.co HBA.out.fo).mono ?_; rintro e w1 ⟨aa, na, ca, rfl, hown1, hb1⟩; have HA := hid (Lo.new hown1 hb1.size); have HB1 := hid hb1; have HBA1 := hid (HBA.out.later hb1); have HL2 := hid (ld41 HBA1.out.xo.range lmo); clear hown1 hb1; have mk1 := hid True.intro)
    | (clear mk1; go_at_call 15; refine (bytes_ok Mo o _ HBA1.out.co HBA1.out.fo).mono ?_; rintro e w2 ⟨ab, nb, cb, rfl, hown2, hb2⟩; have HB := hid (Lo.new hown2 hb2.size); have HA := hid (HA.out.later hb2); have HB2 := hid (below_call HB1.out hb2); have HBA2 := hid (HBA1.out.later hb2); have HL3 := hid (ld41 HBA2.out.xp.range lmp); clear hown2 hb2; have mk2 := hid True.intro)
    | (clear mk2; go_at_call 15; refine (bytes_ok Mp p _ HBA2.out.cp HBA2.out.fp).mono ?_; rintro e w3 ⟨ag, ng, cg, rfl, hown3, hb3⟩; have HG := hid (Lo.new hown3 hb3.size); have HA := hid (HA.out.later hb3); have HB := hid (HB.out.later hb3); have HB3 := hid (below_call HB2.out hb3); have HBA3 := hid (HBA2.out.later hb3); clear hown3 hb3; have mk3 := hid True.intro)
    | (clear mk3; go_at_call 12; refine (known_any _).mono ?_; rintro e w4 ⟨rfl, hb4⟩; have HA := hid (HA.out.later hb4); have HB := hid (HB.out.later hb4); have HG := hid (HG.out.later hb4); have HBA4 := hid (HBA3.out.later hb4); have cv1 := HA.out.ow.read.conv; have cv2 := HB.out.ow.read.conv; have cv3 := HG.out.ow.read.conv; rw [← HS.out.1] at cv1 cv2; rw [← HS.out.2] at cv3; clear hb4; have mk4 := hid True.intro))
  go_cut [18] from 37 (fun s W' => s = .string S2 ∧ W' = w4)
  case first =>
    go_wp2
    go_meet
    exact ⟨rfl, rfl⟩
  case rest =>
    obtain ⟨rfl, rfl⟩ := hcut
    first | go_upon | go_back | go_step
    refine fr_16 HBA4.out HNN.out HMM.out S1 S2 aa ab ag na ca nb cb ng cg W.heap.size w1.heap.size w2.heap.size w3.heap.size HA.out HB.out HG.out HBA.out.rl HS.out.1 HS.out.2 ?_
    intro w' hW
    intros
    exact HK.out _ hW ..
end Go.Proofs.Ytaffgoacbiedlaa
