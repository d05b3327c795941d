import Derived.Test.YtnjadfgfpebkdaaGreatW4
import Derived.Test.YtnjadfgfpebkdaaGreatW5
import Derived.Test.YtnjadfgfpebkdaaGreatUA
import Derived.Test.YtnjadfgfpebkdaaGreatMZ
import Derived.Test.YtnjadfgfpebkdaaGreatW1
import Derived.Test.YtnjadfgfpebkdaaGreatK1
namespace Go.Proofs.YtnjadfgfpebkdaaGreat.D
open Go.RowKit
open Go.Proofs.YtnjadfgfpebkdaaGreat.H (B64 Cp cEq neqC)
set_option linter.unusedVariables false
set_option linter.unusedSimpArgs false
set_option maxRecDepth 1000000 in
set_option maxHeartbeats 8000000 in
theorem rk_tail {u0 u1 u2 u3 u4 u5 u6 u9 u10 u15 u20 u21 u22 u23 u24 u25 u26 u27 u28 u29 u30 u31 u32 u33 u34 u35 u36 u37 u38 u39 u40 u41 u42 u43 u44 u45 u46 u47 u48 u49 u50 u51 u52 u53 u54 u55 u56 u57 u58 u59 u60 u61 u62 u63 u64 u65 u66 u67 u68 u69 u70 u71 u72 u73 u74 u75 u76 u77 u78 u79 u80 u81 u82 u83 u84 u85 u86 u87 u88 u89 u90 u91 u92 u93 u94 u95 u96 u97 u98 u99 u100 u101 u102 u103 u104 u105 u106 u107 u108 u109 u110 u111 u112 u113 u114 u115 u116 u117 u118 u119 u120 u121 u122 u123 u124 u125 u126 u127 u128 u129 u130 u131 u132 u133 u134 u135 u136 u137 u138 u139 u140 u141 u142 u143 u144 u145 u146 u147 u148 u149 u150 u151 u152 u153 u154 u155 u156 u157 u158 u159 u160 u161 u162 u163 u164 u165 u166 u167 u168 u169 u170 u171 u172 u173 u174 u175 u176 u177 u178 u179 u180 u181 u182 u183 u184 u185 u186 u187 u188 u189 u190 u191 u192 u193 u194 u195 u196 u197 u198 u199 u200 u201 u202 u203 u204 u205 u206 u207 u208 u209 u210 u211 u212 u213 u214 u215 u216 u217 u218 u219 u220 u221 u222 u223 u224 u225 u226 u227 u228 u229 u230 u231 u232 u233 u234 u235 u236 u237 u238 u239 u240 u241 u242 u243 u244 u245 u246 u247 u248 u249 u250 u251 u252 u253 u254 u255 u256 u257 u258 u259 u260 u261 u262 u263 u264 u265 u266 u267 u268 u269 u270 u271 u272 u273 u274 u275 u276 u277 u278 u279 u280 u281 u282 u283 u284 u285 u286 u287 u288 u289 u290 u291 u292 u293 u294 u295 u296 u297 u298 u299 u300 u301 u302 u303 u304 u305 u306 u307 u308 u309 u310 u311 u312 u313 u314 u315 u316 u317 u318 u319 u320 u321 u322 u323 u324 u325 u326 u327 u328 u329 u330 u331 u332 u333 u334 u335 u336 u337 u338 u339 u340 u341 u342 u343 u344 u345 u346 u347 u348 u349 u350 u351 u352 u353 u354 u355 u356 u357 u358 u359 u360 u361 u362 u363 u364 : Value} {Qx : Exit → Act → World → Prop} {H : Hd} {s sA : Sta} {T : Nat} {N : Nat → Prop} (al : Bool) (r x xm obj need : Int) (b11 o11 nn c11 b13 o13 n c13 at_ kn c18 : Nat) (a18 : Option Addr) (O : List Tok) (KL : List Cp) (ids : List Int) (w : World) (hg : Gon H s sA al r x xm at_ n kn O KL obj) (hr : (r, -1) ∈ s.l) (hro : ob s.X r = obj) (hsA : sA = felled s xm obj) (hfA : Fit H.mo sA) (h : Duo w H sA s T N) (hO : Rt w (some ⟨b13, o13, none⟩) n O) (hKL : Rd w a18 kn KL) (hNO : ¬ N b13) (hNK : ∀ k, Blk a18 k → ¬ N k ∧ k < w.heap.size) (hid_ : ∀ (i : Nat) (y : Int), ids[i]? = some y → w.cell? ⟨b11, o11 + i, none⟩ = some (.int .i64 y)) (hNi : ¬ N b11) (hnn : nn = ids.length) (hnn2 : nn ≤ 64) (hok : ∀ y ∈ ids, S.i64ok y) (hin : at_ < n) (hne : (bits .and .i64 (rg s.X x) need == 0) = false)
    (hK : ∀ (w' : World), But N w w' → ∀ (v20 v21 v22 v23 v24 v25 v26 v27 v28 v29 v30 v31 v141 v142 v143 v144 v145 v146 v147 v148 v149 v150 v151 v152 v153 v154 v155 v156 v157 v158 v159 v160 v161 v162 v163 v164 v165 v166 v167 v168 v169 v170 v171 v172 v173 v174 v175 v176 v177 v178 v179 v180 v181 v182 v183 v184 v185 v186 v187 v188 v189 v190 v191 v192 v193 v194 v195 v196 v197 v198 v199 v200 v201 v202 v203 v204 v205 v206 v207 v208 v209 v210 v211 v212 v213 v214 v215 v216 v217 v218 v219 v220 v221 v222 v223 v224 v225 v226 v227 v228 v229 v230 v231 v232 v233 v234 v235 v236 v237 v238 v239 v240 v241 v242 v243 v244 v245 v246 v247 v248 v249 v250 v251 v252 v253 v254 v255 v256 v257 v258 v259 v260 v261 v262 v263 v264 v265 v266 v267 v268 v269 v270 v271 v272 v273 v274 v275 v276 v277 v278 v279 v280 v281 v282 v283 v284 v285 v286 v287 v288 v289 v290 v291 v292 v293 v294 v295 v296 v297 v298 v299 v300 v301 v302 v303 v304 v305 v306 v307 v308 v309 v310 v311 v312 v313 v314 v315 v316 v317 v318 v319 v320 v321 v322 v323 v324 v325 v326 v327 v328 v329 v330 v331 v332 v333 v334 v335 v336 v337 v338 v339 v340 v341 v342 v343 v344 v345 v346 v347 v348 v349 v350 v351 v352 v353 v354 v355 v356 v357 v358 v359 v360 v361 v362 v363 v364 : Value), Qx .ret ⟨List.toArray (u0 :: u1 :: u2 :: u3 :: u4 :: u5 :: .bool true :: .pointer (some ⟨H.sb, 0, none⟩) :: .pointer (some ⟨H.rb, 0, none⟩) :: u9 :: u10 :: .slice (some ⟨b11, o11, none⟩) nn c11 :: .int .i64 obj :: .slice (some ⟨b13, o13, none⟩) n c13 :: .int .i64 (at_ : Int) :: u15 :: .bool al :: .int .i64 need :: .slice a18 kn c18 :: .int .i64 0 :: v20 :: v21 :: v22 :: v23 :: v24 :: v25 :: v26 :: v27 :: v28 :: v29 :: v30 :: v31 :: u32 :: u33 :: u34 :: u35 :: u36 :: u37 :: u38 :: u39 :: u40 :: u41 :: u42 :: u43 :: u44 :: u45 :: u46 :: u47 :: u48 :: u49 :: u50 :: u51 :: u52 :: u53 :: u54 :: u55 :: u56 :: u57 :: u58 :: u59 :: u60 :: u61 :: u62 :: u63 :: u64 :: u65 :: u66 :: u67 :: u68 :: u69 :: u70 :: u71 :: u72 :: u73 :: u74 :: u75 :: u76 :: u77 :: u78 :: u79 :: u80 :: u81 :: u82 :: u83 :: u84 :: u85 :: u86 :: u87 :: u88 :: u89 :: u90 :: u91 :: u92 :: u93 :: u94 :: u95 :: u96 :: u97 :: u98 :: u99 :: u100 :: u101 :: u102 :: u103 :: u104 :: u105 :: u106 :: u107 :: u108 :: u109 :: u110 :: u111 :: u112 :: u113 :: u114 :: u115 :: u116 :: u117 :: u118 :: u119 :: u120 :: u121 :: u122 :: u123 :: u124 :: u125 :: u126 :: u127 :: u128 :: u129 :: u130 :: u131 :: u132 :: u133 :: u134 :: u135 :: u136 :: u137 :: u138 :: u139 :: u140 :: v141 :: v142 :: v143 :: v144 :: v145 :: v146 :: v147 :: v148 :: v149 :: v150 :: v151 :: v152 :: v153 :: v154 :: v155 :: v156 :: v157 :: v158 :: v159 :: v160 :: v161 :: v162 :: v163 :: v164 :: v165 :: v166 :: v167 :: v168 :: v169 :: v170 :: v171 :: v172 :: v173 :: v174 :: v175 :: v176 :: v177 :: v178 :: v179 :: v180 :: v181 :: v182 :: v183 :: v184 :: v185 :: v186 :: v187 :: v188 :: v189 :: v190 :: v191 :: v192 :: v193 :: v194 :: v195 :: v196 :: v197 :: v198 :: v199 :: v200 :: v201 :: v202 :: v203 :: v204 :: v205 :: v206 :: v207 :: v208 :: v209 :: v210 :: v211 :: v212 :: v213 :: v214 :: v215 :: v216 :: v217 :: v218 :: v219 :: v220 :: v221 :: v222 :: v223 :: v224 :: v225 :: v226 :: v227 :: v228 :: v229 :: v230 :: v231 :: v232 :: v233 :: v234 :: v235 :: v236 :: v237 :: v238 :: v239 :: v240 :: v241 :: v242 :: v243 :: v244 :: v245 :: v246 :: v247 :: v248 :: v249 :: v250 :: v251 :: v252 :: v253 :: v254 :: v255 :: v256 :: v257 :: v258 :: v259 :: v260 :: v261 :: v262 :: v263 :: v264 :: v265 :: v266 :: v267 :: v268 :: v269 :: v270 :: v271 :: v272 :: v273 :: v274 :: v275 :: v276 :: v277 :: v278 :: v279 :: v280 :: v281 :: v282 :: v283 :: v284 :: v285 :: v286 :: v287 :: v288 :: v289 :: v290 :: v291 :: v292 :: v293 :: v294 :: v295 :: v296 :: v297 :: v298 :: v299 :: v300 :: v301 :: v302 :: v303 :: v304 :: v305 :: v306 :: v307 :: v308 :: v309 :: v310 :: v311 :: v312 :: v313 :: v314 :: v315 :: v316 :: v317 :: v318 :: v319 :: v320 :: v321 :: v322 :: v323 :: v324 :: v325 :: v326 :: v327 :: v328 :: v329 :: v330 :: v331 :: v332 :: v333 :: v334 :: v335 :: v336 :: v337 :: v338 :: v339 :: v340 :: v341 :: v342 :: v343 :: v344 :: v345 :: v346 :: v347 :: v348 :: v349 :: v350 :: v351 :: v352 :: v353 :: v354 :: v355 :: v356 :: v357 :: v358 :: v359 :: v360 :: v361 :: v362 :: v363 :: v364 :: []), []⟩ w') :
    Code.wp Tryz.prog (rs 17 (Tryz.f3.body.getD .skip)) Qx ⟨List.toArray (u0 :: u1 :: u2 :: u3 :: u4 :: u5 :: u6 :: .pointer (some ⟨H.sb, 0, none⟩) :: .pointer (some ⟨H.rb, 0, none⟩) :: u9 :: u10 :: .slice (some ⟨b11, o11, none⟩) nn c11 :: .int .i64 obj :: .slice (some ⟨b13, o13, none⟩) n c13 :: .int .i64 (at_ : Int) :: u15 :: .bool al :: .int .i64 need :: .slice a18 kn c18 :: .int .i64 0 :: u20 :: u21 :: u22 :: u23 :: u24 :: u25 :: u26 :: u27 :: u28 :: u29 :: u30 :: u31 :: u32 :: u33 :: u34 :: u35 :: u36 :: u37 :: u38 :: u39 :: u40 :: u41 :: u42 :: u43 :: u44 :: u45 :: u46 :: u47 :: u48 :: u49 :: u50 :: u51 :: u52 :: u53 :: u54 :: u55 :: u56 :: u57 :: u58 :: u59 :: u60 :: u61 :: u62 :: u63 :: u64 :: u65 :: u66 :: u67 :: u68 :: u69 :: u70 :: u71 :: u72 :: u73 :: u74 :: u75 :: u76 :: u77 :: u78 :: u79 :: u80 :: u81 :: u82 :: u83 :: u84 :: u85 :: u86 :: u87 :: u88 :: u89 :: u90 :: u91 :: u92 :: u93 :: u94 :: u95 :: u96 :: u97 :: u98 :: u99 :: u100 :: u101 :: u102 :: u103 :: u104 :: u105 :: u106 :: u107 :: u108 :: u109 :: u110 :: u111 :: u112 :: u113 :: u114 :: u115 :: u116 :: u117 :: u118 :: u119 :: u120 :: u121 :: u122 :: u123 :: u124 :: u125 :: u126 :: u127 :: u128 :: u129 :: u130 :: u131 :: u132 :: u133 :: u134 :: u135 :: u136 :: u137 :: u138 :: u139 :: u140 :: u141 :: u142 :: u143 :: u144 :: u145 :: u146 :: u147 :: u148 :: u149 :: u150 :: u151 :: u152 :: u153 :: u154 :: u155 :: u156 :: u157 :: u158 :: u159 :: u160 :: u161 :: u162 :: u163 :: u164 :: u165 :: u166 :: u167 :: u168 :: u169 :: u170 :: u171 :: u172 :: u173 :: u174 :: u175 :: u176 :: u177 :: u178 :: u179 :: u180 :: u181 :: u182 :: u183 :: u184 :: u185 :: u186 :: u187 :: u188 :: u189 :: u190 :: u191 :: u192 :: u193 :: u194 :: u195 :: u196 :: u197 :: u198 :: u199 :: u200 :: u201 :: u202 :: u203 :: u204 :: u205 :: u206 :: u207 :: u208 :: u209 :: u210 :: u211 :: u212 :: u213 :: u214 :: u215 :: u216 :: u217 :: u218 :: u219 :: u220 :: u221 :: u222 :: u223 :: u224 :: u225 :: u226 :: u227 :: u228 :: u229 :: u230 :: u231 :: u232 :: u233 :: u234 :: u235 :: u236 :: u237 :: u238 :: u239 :: u240 :: u241 :: u242 :: u243 :: u244 :: u245 :: u246 :: u247 :: u248 :: u249 :: u250 :: u251 :: u252 :: u253 :: u254 :: u255 :: u256 :: u257 :: u258 :: u259 :: u260 :: u261 :: u262 :: u263 :: u264 :: u265 :: u266 :: u267 :: u268 :: u269 :: u270 :: u271 :: u272 :: u273 :: u274 :: u275 :: u276 :: u277 :: u278 :: u279 :: u280 :: u281 :: u282 :: u283 :: u284 :: u285 :: u286 :: u287 :: u288 :: u289 :: u290 :: u291 :: u292 :: u293 :: u294 :: u295 :: u296 :: u297 :: u298 :: u299 :: u300 :: u301 :: u302 :: u303 :: u304 :: u305 :: u306 :: u307 :: u308 :: u309 :: u310 :: u311 :: u312 :: u313 :: u314 :: u315 :: u316 :: u317 :: u318 :: u319 :: u320 :: u321 :: u322 :: u323 :: u324 :: u325 :: u326 :: u327 :: u328 :: u329 :: u330 :: u331 :: u332 :: u333 :: u334 :: u335 :: u336 :: u337 :: u338 :: u339 :: u340 :: u341 :: u342 :: u343 :: u344 :: u345 :: u346 :: u347 :: u348 :: u349 :: u350 :: u351 :: u352 :: u353 :: u354 :: u355 :: u356 :: u357 :: u358 :: u359 :: u360 :: u361 :: u362 :: u363 :: u364 :: []), []⟩ w := by
  conv => arg 2; whnf
  have HGo := hid hg
  have HD := hid h
  have HFA := hid hfA
  have HSA := hid hsA
  have HRO := hid hro
  have HRt := hid hr
  have HO := hid hO
  have HKL := hid hKL
  have HNO := hid hNO
  have HNK := hid hNK
  have HId := hid hid_
  have HNi := hid hNi
  have HNn := hid hnn
  have HOk := hid hok
  have HK := hid hK
  obtain ⟨hxn, _, qx, hOx, _⟩ := hg.told.at_ at_ x hg.at_x
  have hb13 : b13 < w.heap.size := by
    obtain ⟨b', o', e', hc'⟩ := rt_at hO hOx
    cases e'
    exact World.block_lt_of_cell? _ _ hc'.c0
  have hcet : Cet w b13 (o13 + at_ * 5) ((tk s.X x).1, rg s.X x, qx) := by
    obtain ⟨b', o', e', hc'⟩ := rt_at hO hOx
    cases e'
    exact hc'
  obtain ⟨-, -, -, c3, -⟩ := hcet
  obtain ⟨rt, hrt⟩ : ∃ rt, rt = rg s.X x := ⟨_, rfl⟩
  rw [← hrt] at c3 hne
  have hat2 : (at_ : Int) < (n : Int) := by omega
  have hat0 : (0 : Int) ≤ (at_ : Int) := by omega
  have hn1 := hg.n1
  obtain ⟨w2, hmk, hOwn, hb2⟩ := make_ints w n hn1
  have HOwn := hid hOwn
  have HB2 := hid hb2
  have HB13 := hid hb13
  clear hg h hfA hsA hro hr hO hKL hNO hNK hid_ hNi hnn hok hK hxn hOx hrt hOwn hb2 hb13
  go_upto_region 38 with fail
  clear hmk c3
  have HP0 : Hid (Ow w2 w.heap.size 3 1 (some ⟨w.heap.size, 0, none⟩) n n (ints (List.replicate n 0))) := HOwn.out.row
  have hs1 := HD.out.t1.lt
  have hs2 := HD.out.t2.lt
  have hpl : w.heap.size < w2.heap.size := by
    have := HP0.out.blk w.heap.size ⟨_, rfl, rfl⟩
    exact this.2
  go_loopw [20, 22, 23] (L2I w2 H sA s T N w.heap.size w2.heap.size w.heap.size n O (cfOf s.l r xm)) (fun _ _ t _ => n - (intOf t).toNat)
  case atStart =>
    refine ⟨0, none, 0, Nat.zero_le _, rfl, rfl, rfl, hid ⟨Ow.nil .., ?_, HD.out.later HB2.out, But.refl _ _, Nat.le_refl _⟩⟩
    have := HP0.out
    rw [HGo.out.len] at this ⊢
    exact this
  case round =>
    obtain ⟨i2, a9, c9, hi2, rfl, rfl, rfl, HI⟩ := hrel
    by_cases hlt2 : i2 < n
    · refine rk_rd (H := H) (s := s) (sA := sA) (T := T) (N := N) al r x xm obj b13 o13 n c13 at_ kn c18 w.heap.size w.heap.size w2.heap.size i2 c9 a18 a9 O KL w2 wr HGo.out (HO.out.later HB2.out) (HKL.out.later HB2.out) ⟨HNO.out, HB13.out⟩ HNK.out ⟨Nat.le_refl _, hpl, Nat.le_refl _⟩ (fun k hk => (HD.out.rng k hk).2.1) ⟨hs1, hs2⟩ hlt2 HI.out ?_
      intro t20 t22 w' hW
      have HW := hid hW
      clear hW hi2 HI
      intros
      go_wp2
      exact ⟨HW.out, by simp [intOf]; omega⟩
    obtain rfl : i2 = n := by omega
    obtain ⟨hL3, hP3, hD3, hB3, hsz3⟩ := HI.out
    have HL3 := hid hL3
    have HD3 := hid hD3
    have HW3 : Hid (But N w wr) := by
      refine ⟨hB3.os.trans HB2.out.os, hB3.tape.trans HB2.out.tape, hB3.output.trans HB2.out.output, Nat.le_trans HB2.out.size hB3.size, fun k hk hn => ?_⟩
      exact (hB3.block k (Nat.lt_of_lt_of_le hk HB2.out.size) (fun e => e.elim hn (fun e2 => by omega))).trans (HB2.out.block k hk)
    have e1 : i2 = (G true s.l r).length := by rw [← HGo.out.told.len, ← HGo.out.len]
    have ekn : (stL O (cfOf s.l r xm) i2).1 = kn := by
      rw [e1, gone_all HGo.out.inv.ok HGo.out.root HGo.out.xmr HGo.out.told.len, HGo.out.kln, HGo.out.kl, List.length_map]
    have eleft : (stL O (cfOf s.l r xm) i2).2.1 = ofL H.mo sA.X sA.l obj := by
      have hT := HGo.out.told
      have hi := HD3.out.inv
      rw [HGo.out.sX, HGo.out.sl] at hi ⊢
      rw [← HRO.out] at hT ⊢
      rw [e1]
      exact left_is HGo.out.inv HRt.out HGo.out.xmr hT hi
    rw [eleft] at HL3
    rw [eleft, ekn]
    have hdx2 : decide ((i2 : Int) < (i2 : Int)) = false := by simp
    clear hL3 hP3 hD3 hB3 hsz3 eleft ekn e1 HI hlt2 hi2
    have k1 := hid (fun (U : World) (hU : Below wr.heap.size wr U) => cof_any (HD3.out.later hU).cat obj)
    have k2 := hid (fun (U : World) (hU : Below wr.heap.size wr U) => Q.of_any (HD3.out.later hU).qu obj (wf_of HGo.out.oi))
    have hcnt : sA.L.count obj = (ofL H.mo sA.X sA.l obj).length := by rw [HFA.out.cnt, ofL_len HFA.out.inv]
    rw [hcnt] at k2
    obtain ⟨sz, hsz⟩ := size_is HFA.out obj
    have k3 : Hid (Calls Tryz.prog 18 #[.pointer (some ⟨H.z.s, 0, none⟩), .int .i64 obj] wr fun e w' => e = .returned (S.szV (S.atV sA.V obj)) ∧ Below wr.heap.size wr w') := by
      obtain ⟨Os, hst, hvw⟩ := HD3.out.st
      have := S.st_size H.z sA.nx Os obj wr hst HGo.out.oi
      unfold Hid
      rw [← hvw, S.vw_at]
      cases ho : S.at? Os obj with
      | none => rw [ho] at this; exact this
      | some o9 => rw [ho] at this; exact this
    rw [hsz] at k3
    have hlo := Nat.le_trans (len_small HFA.out.inv obj) HD3.out.hmo.2
    obtain ⟨O', hO'⟩ : ∃ O', O' = ofL H.mo sA.X sA.l obj := ⟨_, rfl⟩
    rw [← hO'] at HL3 k1 k2 k3 hlo
    rw [← hO']
    obtain ⟨m, hm⟩ : ∃ m, m = O'.length := ⟨_, rfl⟩
    have HM := hid hm
    rw [← hm] at HL3 k1 k2 k3 hlo
    rw [← hm]
    obtain ⟨bb, hbb⟩ : ∃ bb, bb = decide (0 < m) := ⟨_, rfl⟩
    rw [← hbb] at k3
    have g1 : decide (0 < m) = bb := hbb.symm
    have g2 : decide ((0 : Int) < (m : Int)) = bb := by rw [← g1]; congr 1; exact propext ⟨fun h => by omega, fun h => by omega⟩
    have g3 : decide ((m : Int) > 0) = bb := g2
    have g4 : (bb != bb) = false := by cases bb <;> rfl
    have g5 : ((kn : Int) != (kn : Int)) = false := by simp
    have g6 : ((m : Int) != (m : Int)) = false := by simp
    have t2 := HD3.out.t1.c2
    clear hcnt hsz hO' hm hbb
    go_upto_region 54 with (first
      | (go_at_call 18; refine k3.out.mono ?_; rintro e w4 ⟨rfl, hb4⟩; have HB4 := hid hb4; have y0 := (HD3.out.later hb4).t1.c0; have y1 := (HD3.out.later hb4).t1.c1; clear hb4 t2))
    go_upto_region 57 with (first
      | (go_at_call 19; refine (k2.out _ HB6.out).mono ?_; rintro e w7 ⟨rfl, hw9⟩; have HB7 : Hid (Below wr.heap.size wr w7) := (by unfold Hid; rw [hw9]; exact HB6.out); clear hw9)
      | (go_at_call 14; refine (sameT_any _ _ (HT5.out.rt HM.out.symm) (HL5.out.rt HM.out.symm) (by omega) (by omega)).mono ?_; rintro e w6 ⟨rfl, q6, hw6⟩; have HB6 : Hid (Below wr.heap.size wr w6) := (by unfold Hid; rw [hw6]; exact below_drewN HB5.out q6); have z1 := (HD3.out.later HB6.out).t1.c1; rw [show decide (O' = O') = true by simp]; clear hw6)
      | (go_at_call 11; refine (k1.out _ HB4.out).mono ?_; rintro e w5 ⟨a5, c5, rfl, hO5, hb5⟩; have HB5 := hid (below_call HB4.out hb5); have HT5 := hid hO5; have HL5 := hid (HL3.out.later HB5.out); clear hO5 hb5))
    have HD7 := hid (HD3.out.later HB7.out)
    have HW7 := hid (HW3.out.trans (But.of (S := N) HB7.out))
    go_loopw [31] (fun t W => ∃ i : Nat, i ≤ nn ∧ t = .int .i64 (i : Int) ∧ Hid (Below w7.heap.size w7 W)) (fun t _ => nn - (intOf t).toNat)
    case atStart => exact ⟨0, Nat.zero_le _, rfl, hid (Below.refl _ _)⟩
    case round =>
      obtain ⟨i, hi, rfl, HBi⟩ := hrel
      by_cases hlt : i < nn
      · obtain ⟨id, hidd⟩ : ∃ id, ids[i]? = some id := ⟨_, List.getElem?_eq_getElem (by rw [← HNn.out]; exact hlt)⟩
        have hcell := HId.out i id hidd
        have hb11 : b11 < w.heap.size := World.block_lt_of_cell? _ _ hcell
        have hcw : wr.cell? ⟨b11, o11 + i, none⟩ = some (.int .i64 id) := cell_later HBi.out (cell_but HW7.out hcell HNi.out)
        refine rk_59 (s := s) (sA := sA) (T := T) (N := N) b11 o11 nn c11 i obj id wr (HD7.out.later HBi.out) HGo.out.inv hlt hnn2 (HOk.out id (List.mem_of_getElem? hidd)) hcw (fun hne' => ?_) ?_
        · have hxm := G_nums HGo.out.inv.ok HGo.out.xmr
          have hoxm : ob s.X xm ≠ id := fun e => hne' (by rw [← e, G_obj HGo.out.inv HGo.out.xmr, HRO.out])
          have hi' := HD7.out.inv
          rw [HGo.out.sX, HGo.out.sl] at hi'
          refine ⟨?_, ?_⟩
          · rw [HGo.out.sX, HGo.out.sl]
            exact ofL_other HGo.out.inv hxm hi' hoxm
          · rw [HSA.out]
            exact other_count hne'
        intro w' hW
        have HBi' := hid (below_call HBi.out hW)
        clear hW hcell hcw hb11 hidd hi
        intros
        go_wp2
        exact ⟨⟨i + 1, hlt, rfl, HBi'⟩, by simp [intOf]; omega⟩
      · obtain rfl : i = nn := by omega
        have hd2 : ¬ (i : Int) < (i : Int) := by omega
        have hdx : decide ((i : Int) < (i : Int)) = false := by simp
        have HFin := hid (HW7.out.trans (But.of (S := N) HBi.out))
        clear HBi
        go_wp2
        exact HK.out _ HFin.out ..
end Go.Proofs.YtnjadfgfpebkdaaGreat.D
namespace Go.Proofs.YtnjadfgfpebkdaaGreat.D
open Go.RowKit
open Go.Proofs.YtnjadfgfpebkdaaGreat.H (B64 Cp cEq neqC)
set_option linter.unusedVariables false
set_option linter.unusedSimpArgs false
set_option maxRecDepth 1000000 in
set_option maxHeartbeats 4000000 in
theorem rk_no {u0 u1 u2 u3 u4 u5 u6 u9 u10 u11 u15 u16 u20 u21 u22 u23 u24 u25 u26 u27 u28 u29 u30 u31 u32 u33 u34 u35 u36 u37 u38 u39 u40 u41 u42 u43 u44 u45 u46 u47 u48 u49 u50 u51 u52 u53 u54 u55 u56 u57 u58 u59 u60 u61 u62 u63 u64 u65 u66 u67 u68 u69 u70 u71 u72 u73 u74 u75 u76 u77 u78 u79 u80 u81 u82 u83 u84 u85 u86 u87 u88 u89 u90 u91 u92 u93 u94 u95 u96 u97 u98 u99 u100 u101 u102 u103 u104 u105 u106 u107 u108 u109 u110 u111 u112 u113 u114 u115 u116 u117 u118 u119 u120 u121 u122 u123 u124 u125 u126 u127 u128 u129 u130 u131 u132 u133 u134 u135 u136 u137 u138 u139 u140 u141 u142 u143 u144 u145 u146 u147 u148 u149 u150 u151 u152 u153 u154 u155 u156 u157 u158 u159 u160 u161 u162 u163 u164 u165 u166 u167 u168 u169 u170 u171 u172 u173 u174 u175 u176 u177 u178 u179 u180 u181 u182 u183 u184 u185 u186 u187 u188 u189 u190 u191 u192 u193 u194 u195 u196 u197 u198 u199 u200 u201 u202 u203 u204 u205 u206 u207 u208 u209 u210 u211 u212 u213 u214 u215 u216 u217 u218 u219 u220 u221 u222 u223 u224 u225 u226 u227 u228 u229 u230 u231 u232 u233 u234 u235 u236 u237 u238 u239 u240 u241 u242 u243 u244 u245 u246 u247 u248 u249 u250 u251 u252 u253 u254 u255 u256 u257 u258 u259 u260 u261 u262 u263 u264 u265 u266 u267 u268 u269 u270 u271 u272 u273 u274 u275 u276 u277 u278 u279 u280 u281 u282 u283 u284 u285 u286 u287 u288 u289 u290 u291 u292 u293 u294 u295 u296 u297 u298 u299 u300 u301 u302 u303 u304 u305 u306 u307 u308 u309 u310 u311 u312 u313 u314 u315 u316 u317 u318 u319 u320 u321 u322 u323 u324 u325 u326 u327 u328 u329 u330 u331 u332 u333 u334 u335 u336 u337 u338 u339 u340 u341 u342 u343 u344 u345 u346 u347 u348 u349 u350 u351 u352 u353 u354 u355 u356 u357 u358 u359 u360 u361 u362 u363 u364 : Value} {Qx : Exit → Act → World → Prop} {H : Hd} {s : Sta} {T : Nat} {N : Nat → Prop} (obj need rt : Int) (b13 o13 n c13 at_ c18 : Nat) (a18 : Option Addr) (O : List Tok) (w : World) (h : Duo w H s s T N) (hO : Rt w (some ⟨b13, o13, none⟩) n O) (hOe : O = ofL H.mo s.X s.l obj) (hn : n = O.length) (c3 : w.cell? ⟨b13, o13 + at_ * 5 + 3, none⟩ = some (.int .i64 rt)) (hin : at_ < n) (hne : (bits .and .i64 rt need == 0) = true)
    (hK : ∀ (w' : World), Below w.heap.size w w' → ∀ (v141 v142 v143 v144 v145 v146 v147 v148 v149 v150 v151 v152 v153 v154 v155 v156 v157 v158 v159 v160 v161 v162 v163 v164 v165 v166 v167 v168 v169 v170 : Value), Qx .ret ⟨List.toArray (u0 :: u1 :: u2 :: u3 :: u4 :: u5 :: .bool true :: .pointer (some ⟨H.sb, 0, none⟩) :: .pointer (some ⟨H.rb, 0, none⟩) :: u9 :: u10 :: u11 :: .int .i64 obj :: .slice (some ⟨b13, o13, none⟩) n c13 :: .int .i64 (at_ : Int) :: u15 :: u16 :: .int .i64 need :: .slice a18 0 c18 :: .int .i64 4 :: u20 :: u21 :: u22 :: u23 :: u24 :: u25 :: u26 :: u27 :: u28 :: u29 :: u30 :: u31 :: u32 :: u33 :: u34 :: u35 :: u36 :: u37 :: u38 :: u39 :: u40 :: u41 :: u42 :: u43 :: u44 :: u45 :: u46 :: u47 :: u48 :: u49 :: u50 :: u51 :: u52 :: u53 :: u54 :: u55 :: u56 :: u57 :: u58 :: u59 :: u60 :: u61 :: u62 :: u63 :: u64 :: u65 :: u66 :: u67 :: u68 :: u69 :: u70 :: u71 :: u72 :: u73 :: u74 :: u75 :: u76 :: u77 :: u78 :: u79 :: u80 :: u81 :: u82 :: u83 :: u84 :: u85 :: u86 :: u87 :: u88 :: u89 :: u90 :: u91 :: u92 :: u93 :: u94 :: u95 :: u96 :: u97 :: u98 :: u99 :: u100 :: u101 :: u102 :: u103 :: u104 :: u105 :: u106 :: u107 :: u108 :: u109 :: u110 :: u111 :: u112 :: u113 :: u114 :: u115 :: u116 :: u117 :: u118 :: u119 :: u120 :: u121 :: u122 :: u123 :: u124 :: u125 :: u126 :: u127 :: u128 :: u129 :: u130 :: u131 :: u132 :: u133 :: u134 :: u135 :: u136 :: u137 :: u138 :: u139 :: u140 :: v141 :: v142 :: v143 :: v144 :: v145 :: v146 :: v147 :: v148 :: v149 :: v150 :: v151 :: v152 :: v153 :: v154 :: v155 :: v156 :: v157 :: v158 :: v159 :: v160 :: v161 :: v162 :: v163 :: v164 :: v165 :: v166 :: v167 :: v168 :: v169 :: v170 :: u171 :: u172 :: u173 :: u174 :: u175 :: u176 :: u177 :: u178 :: u179 :: u180 :: u181 :: u182 :: u183 :: u184 :: u185 :: u186 :: u187 :: u188 :: u189 :: u190 :: u191 :: u192 :: u193 :: u194 :: u195 :: u196 :: u197 :: u198 :: u199 :: u200 :: u201 :: u202 :: u203 :: u204 :: u205 :: u206 :: u207 :: u208 :: u209 :: u210 :: u211 :: u212 :: u213 :: u214 :: u215 :: u216 :: u217 :: u218 :: u219 :: u220 :: u221 :: u222 :: u223 :: u224 :: u225 :: u226 :: u227 :: u228 :: u229 :: u230 :: u231 :: u232 :: u233 :: u234 :: u235 :: u236 :: u237 :: u238 :: u239 :: u240 :: u241 :: u242 :: u243 :: u244 :: u245 :: u246 :: u247 :: u248 :: u249 :: u250 :: u251 :: u252 :: u253 :: u254 :: u255 :: u256 :: u257 :: u258 :: u259 :: u260 :: u261 :: u262 :: u263 :: u264 :: u265 :: u266 :: u267 :: u268 :: u269 :: u270 :: u271 :: u272 :: u273 :: u274 :: u275 :: u276 :: u277 :: u278 :: u279 :: u280 :: u281 :: u282 :: u283 :: u284 :: u285 :: u286 :: u287 :: u288 :: u289 :: u290 :: u291 :: u292 :: u293 :: u294 :: u295 :: u296 :: u297 :: u298 :: u299 :: u300 :: u301 :: u302 :: u303 :: u304 :: u305 :: u306 :: u307 :: u308 :: u309 :: u310 :: u311 :: u312 :: u313 :: u314 :: u315 :: u316 :: u317 :: u318 :: u319 :: u320 :: u321 :: u322 :: u323 :: u324 :: u325 :: u326 :: u327 :: u328 :: u329 :: u330 :: u331 :: u332 :: u333 :: u334 :: u335 :: u336 :: u337 :: u338 :: u339 :: u340 :: u341 :: u342 :: u343 :: u344 :: u345 :: u346 :: u347 :: u348 :: u349 :: u350 :: u351 :: u352 :: u353 :: u354 :: u355 :: u356 :: u357 :: u358 :: u359 :: u360 :: u361 :: u362 :: u363 :: u364 :: []), []⟩ w') :
    Code.wp Tryz.prog (rs 17 (Tryz.f3.body.getD .skip)) Qx ⟨List.toArray (u0 :: u1 :: u2 :: u3 :: u4 :: u5 :: u6 :: .pointer (some ⟨H.sb, 0, none⟩) :: .pointer (some ⟨H.rb, 0, none⟩) :: u9 :: u10 :: u11 :: .int .i64 obj :: .slice (some ⟨b13, o13, none⟩) n c13 :: .int .i64 (at_ : Int) :: u15 :: u16 :: .int .i64 need :: .slice a18 0 c18 :: .int .i64 4 :: u20 :: u21 :: u22 :: u23 :: u24 :: u25 :: u26 :: u27 :: u28 :: u29 :: u30 :: u31 :: u32 :: u33 :: u34 :: u35 :: u36 :: u37 :: u38 :: u39 :: u40 :: u41 :: u42 :: u43 :: u44 :: u45 :: u46 :: u47 :: u48 :: u49 :: u50 :: u51 :: u52 :: u53 :: u54 :: u55 :: u56 :: u57 :: u58 :: u59 :: u60 :: u61 :: u62 :: u63 :: u64 :: u65 :: u66 :: u67 :: u68 :: u69 :: u70 :: u71 :: u72 :: u73 :: u74 :: u75 :: u76 :: u77 :: u78 :: u79 :: u80 :: u81 :: u82 :: u83 :: u84 :: u85 :: u86 :: u87 :: u88 :: u89 :: u90 :: u91 :: u92 :: u93 :: u94 :: u95 :: u96 :: u97 :: u98 :: u99 :: u100 :: u101 :: u102 :: u103 :: u104 :: u105 :: u106 :: u107 :: u108 :: u109 :: u110 :: u111 :: u112 :: u113 :: u114 :: u115 :: u116 :: u117 :: u118 :: u119 :: u120 :: u121 :: u122 :: u123 :: u124 :: u125 :: u126 :: u127 :: u128 :: u129 :: u130 :: u131 :: u132 :: u133 :: u134 :: u135 :: u136 :: u137 :: u138 :: u139 :: u140 :: u141 :: u142 :: u143 :: u144 :: u145 :: u146 :: u147 :: u148 :: u149 :: u150 :: u151 :: u152 :: u153 :: u154 :: u155 :: u156 :: u157 :: u158 :: u159 :: u160 :: u161 :: u162 :: u163 :: u164 :: u165 :: u166 :: u167 :: u168 :: u169 :: u170 :: u171 :: u172 :: u173 :: u174 :: u175 :: u176 :: u177 :: u178 :: u179 :: u180 :: u181 :: u182 :: u183 :: u184 :: u185 :: u186 :: u187 :: u188 :: u189 :: u190 :: u191 :: u192 :: u193 :: u194 :: u195 :: u196 :: u197 :: u198 :: u199 :: u200 :: u201 :: u202 :: u203 :: u204 :: u205 :: u206 :: u207 :: u208 :: u209 :: u210 :: u211 :: u212 :: u213 :: u214 :: u215 :: u216 :: u217 :: u218 :: u219 :: u220 :: u221 :: u222 :: u223 :: u224 :: u225 :: u226 :: u227 :: u228 :: u229 :: u230 :: u231 :: u232 :: u233 :: u234 :: u235 :: u236 :: u237 :: u238 :: u239 :: u240 :: u241 :: u242 :: u243 :: u244 :: u245 :: u246 :: u247 :: u248 :: u249 :: u250 :: u251 :: u252 :: u253 :: u254 :: u255 :: u256 :: u257 :: u258 :: u259 :: u260 :: u261 :: u262 :: u263 :: u264 :: u265 :: u266 :: u267 :: u268 :: u269 :: u270 :: u271 :: u272 :: u273 :: u274 :: u275 :: u276 :: u277 :: u278 :: u279 :: u280 :: u281 :: u282 :: u283 :: u284 :: u285 :: u286 :: u287 :: u288 :: u289 :: u290 :: u291 :: u292 :: u293 :: u294 :: u295 :: u296 :: u297 :: u298 :: u299 :: u300 :: u301 :: u302 :: u303 :: u304 :: u305 :: u306 :: u307 :: u308 :: u309 :: u310 :: u311 :: u312 :: u313 :: u314 :: u315 :: u316 :: u317 :: u318 :: u319 :: u320 :: u321 :: u322 :: u323 :: u324 :: u325 :: u326 :: u327 :: u328 :: u329 :: u330 :: u331 :: u332 :: u333 :: u334 :: u335 :: u336 :: u337 :: u338 :: u339 :: u340 :: u341 :: u342 :: u343 :: u344 :: u345 :: u346 :: u347 :: u348 :: u349 :: u350 :: u351 :: u352 :: u353 :: u354 :: u355 :: u356 :: u357 :: u358 :: u359 :: u360 :: u361 :: u362 :: u363 :: u364 :: []), []⟩ w := by
  conv => arg 2; whnf
  have HD := hid h
  have HO := hid hO
  have HK := hid hK
  have HN := hid hn
  have k1 := hid (fun (U : World) (hU : Below w.heap.size w U) => cof_any (HD.out.later hU).cat obj)
  rw [← hOe, ← hn] at k1
  have hlo : n ≤ 256 := by rw [hn, hOe]; exact Nat.le_trans (len_small h.inv obj) h.hmo.2
  have hat2 : (at_ : Int) < (n : Int) := by omega
  have hat0 : (0 : Int) ≤ (at_ : Int) := by omega
  have t0 := h.t1.c0
  clear h hO hK hn hOe
  go_upto_region 31 with fail
  clear c3
  go_wp2_with (first
    | (go_at_call 15; refine (told_any (HD.out.later HB6.out) HD.out.inv).mono ?_; rintro e w7 ⟨rfl, hb7⟩; have HB7 := hid (below_call HB6.out hb7); clear hb7)
    | (go_at_call 14; refine (sameT_any _ _ (HT5.out.rt HN.out.symm) (HO.out.later HB5.out) (by omega) (by omega)).mono ?_; rintro e w6 ⟨rfl, q6, hw6⟩; have HB6 : Hid (Below w.heap.size w w6) := (by unfold Hid; rw [hw6]; exact below_drewN HB5.out q6); rw [show decide (O = O) = true by simp]; clear hw6)
    | (go_at_call 11; refine (k1.out _ (by first | exact Below.refl _ _ | exact (Below.refl _ _).drew)).mono ?_; rintro e w5 ⟨a5, c5, rfl, hO5, hb5⟩; have HB5 : Hid (Below w.heap.size w w5) := (by first | exact hb5 | exact below_call (Below.refl w.heap.size w).drew hb5); have HT5 := hid hO5; clear hO5 hb5))
  exact HK.out _ HB7.out ..
end Go.Proofs.YtnjadfgfpebkdaaGreat.D
namespace Go.Proofs.YtnjadfgfpebkdaaGreat.D
open Go.RowKit
open Go.Proofs.YtnjadfgfpebkdaaGreat.H (B64 Cp cEq neqC)
set_option linter.unusedVariables false
set_option linter.unusedSimpArgs false
set_option maxRecDepth 1000000 in
set_option maxHeartbeats 8000000 in
theorem rk_end {u0 u1 u2 u3 u4 u5 u6 u9 u10 u18 u19 u20 u21 u22 u23 u24 u25 u26 u27 u28 u29 u30 u31 u32 u33 u34 u35 u36 u37 u38 u39 u40 u41 u42 u43 u44 u45 u46 u47 u48 u49 u50 u51 u52 u53 u54 u55 u56 u57 u58 u59 u60 u61 u62 u63 u64 u65 u66 u67 u68 u69 u70 u71 u72 u73 u74 u75 u76 u77 u78 u79 u80 u81 u82 u83 u84 u85 u86 u87 u88 u89 u90 u91 u92 u93 u94 u95 u96 u97 u98 u99 u100 u101 u102 u103 u104 u105 u106 u107 u108 u109 u110 u111 u112 u113 u114 u115 u116 u117 u118 u119 u120 u121 u122 u123 u124 u125 u126 u127 u128 u129 u130 u131 u132 u133 u134 u135 u136 u137 u138 u139 u140 u141 u142 u143 u144 u145 u146 u147 u148 u149 u150 u151 u152 u153 u154 u155 u156 u157 u158 u159 u160 u161 u162 u163 u164 u165 u166 u167 u168 u169 u170 u171 u172 u173 u174 u175 u176 u177 u178 u179 u180 u181 u182 u183 u184 u185 u186 u187 u188 u189 u190 u191 u192 u193 u194 u195 u196 u197 u198 u199 u200 u201 u202 u203 u204 u205 u206 u207 u208 u209 u210 u211 u212 u213 u214 u215 u216 u217 u218 u219 u220 u221 u222 u223 u224 u225 u226 u227 u228 u229 u230 u231 u232 u233 u234 u235 u236 u237 u238 u239 u240 u241 u242 u243 u244 u245 u246 u247 u248 u249 u250 u251 u252 u253 u254 u255 u256 u257 u258 u259 u260 u261 u262 u263 u264 u265 u266 u267 u268 u269 u270 u271 u272 u273 u274 u275 u276 u277 u278 u279 u280 u281 u282 u283 u284 u285 u286 u287 u288 u289 u290 u291 u292 u293 u294 u295 u296 u297 u298 u299 u300 u301 u302 u303 u304 u305 u306 u307 u308 u309 u310 u311 u312 u313 u314 u315 u316 u317 u318 u319 u320 u321 u322 u323 u324 u325 u326 u327 u328 u329 u330 u331 u332 u333 u334 u335 u336 u337 u338 u339 u340 u341 u342 u343 u344 u345 u346 u347 u348 u349 u350 u351 u352 u353 u354 u355 u356 u357 u358 u359 u360 u361 u362 u363 u364 : Value} {Qx : Exit → Act → World → Prop} {H : Hd} {s : Sta} {T : Nat} {N : Nat → Prop} (al : Bool) (r x obj : Int) (b11 o11 nn c11 b13 o13 n c13 at_ xb : Nat) (O : List Tok) (ids : List Int) (w : World) (hf : Fit H.mo s) (h : Duo w H s s T N) (hr : (r, -1) ∈ s.l) (hro : ob s.X r = obj) (hT : Told s.X s.l obj O (G true s.l r)) (hOe : O = ofL H.mo s.X s.l obj) (hn : n = O.length) (hxg : (G true s.l r)[at_]? = some x) (hO : Rt w (some ⟨b13, o13, none⟩) n O) (hNO : ¬ N b13) (hid_ : ∀ (i : Nat) (y : Int), ids[i]? = some y → w.cell? ⟨b11, o11 + i, none⟩ = some (.int .i64 y)) (hNi : ¬ N b11) (hnn : nn = ids.length) (hnn2 : nn ≤ 64) (hok : ∀ y ∈ ids, S.i64ok y) (hx : Cel w xb 0 (tk s.X x).1) (hxb : ¬ N xb) (hoi : S.i64ok obj)
    (hK : ∀ (w' : World), But N w w' → ∀ (v17 v18 v19 v20 v21 v22 v23 v24 v25 v26 v27 v28 v29 v30 v31 v106 v107 v108 v109 v110 v111 v112 v113 v114 v115 v116 v117 v118 v119 v120 v121 v122 v123 v124 v125 v126 v127 v128 v129 v130 v131 v132 v133 v134 v135 v136 v137 v138 v139 v140 v141 v142 v143 v144 v145 v146 v147 v148 v149 v150 v151 v152 v153 v154 v155 v156 v157 v158 v159 v160 v161 v162 v163 v164 v165 v166 v167 v168 v169 v170 v171 v172 v173 v174 v175 v176 v177 v178 v179 v180 v181 v182 v183 v184 v185 v186 v187 v188 v189 v190 v191 v192 v193 v194 v195 v196 v197 v198 v199 v200 v201 v202 v203 v204 v205 v206 v207 v208 v209 v210 v211 v212 v213 v214 v215 v216 v217 v218 v219 v220 v221 v222 v223 v224 v225 v226 v227 v228 v229 v230 v231 v232 v233 v234 v235 v236 v237 v238 v239 v240 v241 v242 v243 v244 v245 v246 v247 v248 v249 v250 v251 v252 v253 v254 v255 v256 v257 v258 v259 v260 v261 v262 v263 v264 v265 v266 v267 v268 v269 v270 v271 v272 v273 v274 v275 v276 v277 v278 v279 v280 v281 v282 v283 v284 v285 v286 v287 v288 v289 v290 v291 v292 v293 v294 v295 v296 v297 v298 v299 v300 v301 v302 v303 v304 v305 v306 v307 v308 v309 v310 v311 v312 v313 v314 v315 v316 v317 v318 v319 v320 v321 v322 v323 v324 v325 v326 v327 v328 v329 v330 v331 v332 v333 v334 v335 v336 v337 v338 v339 v340 v341 v342 v343 v344 v345 v346 v347 v348 v349 v350 v351 v352 v353 v354 v355 v356 v357 v358 v359 v360 v361 v362 v363 v364 : Value), Qx .ret ⟨List.toArray (u0 :: u1 :: u2 :: u3 :: u4 :: u5 :: .bool true :: .pointer (some ⟨H.sb, 0, none⟩) :: .pointer (some ⟨H.rb, 0, none⟩) :: u9 :: u10 :: .slice (some ⟨b11, o11, none⟩) nn c11 :: .int .i64 obj :: .slice (some ⟨b13, o13, none⟩) n c13 :: .int .i64 (at_ : Int) :: .pointer (some ⟨xb, 0, none⟩) :: .bool al :: v17 :: v18 :: v19 :: v20 :: v21 :: v22 :: v23 :: v24 :: v25 :: v26 :: v27 :: v28 :: v29 :: v30 :: v31 :: u32 :: u33 :: u34 :: u35 :: u36 :: u37 :: u38 :: u39 :: u40 :: u41 :: u42 :: u43 :: u44 :: u45 :: u46 :: u47 :: u48 :: u49 :: u50 :: u51 :: u52 :: u53 :: u54 :: u55 :: u56 :: u57 :: u58 :: u59 :: u60 :: u61 :: u62 :: u63 :: u64 :: u65 :: u66 :: u67 :: u68 :: u69 :: u70 :: u71 :: u72 :: u73 :: u74 :: u75 :: u76 :: u77 :: u78 :: u79 :: u80 :: u81 :: u82 :: u83 :: u84 :: u85 :: u86 :: u87 :: u88 :: u89 :: u90 :: u91 :: u92 :: u93 :: u94 :: u95 :: u96 :: u97 :: u98 :: u99 :: u100 :: u101 :: u102 :: u103 :: u104 :: u105 :: v106 :: v107 :: v108 :: v109 :: v110 :: v111 :: v112 :: v113 :: v114 :: v115 :: v116 :: v117 :: v118 :: v119 :: v120 :: v121 :: v122 :: v123 :: v124 :: v125 :: v126 :: v127 :: v128 :: v129 :: v130 :: v131 :: v132 :: v133 :: v134 :: v135 :: v136 :: v137 :: v138 :: v139 :: v140 :: v141 :: v142 :: v143 :: v144 :: v145 :: v146 :: v147 :: v148 :: v149 :: v150 :: v151 :: v152 :: v153 :: v154 :: v155 :: v156 :: v157 :: v158 :: v159 :: v160 :: v161 :: v162 :: v163 :: v164 :: v165 :: v166 :: v167 :: v168 :: v169 :: v170 :: v171 :: v172 :: v173 :: v174 :: v175 :: v176 :: v177 :: v178 :: v179 :: v180 :: v181 :: v182 :: v183 :: v184 :: v185 :: v186 :: v187 :: v188 :: v189 :: v190 :: v191 :: v192 :: v193 :: v194 :: v195 :: v196 :: v197 :: v198 :: v199 :: v200 :: v201 :: v202 :: v203 :: v204 :: v205 :: v206 :: v207 :: v208 :: v209 :: v210 :: v211 :: v212 :: v213 :: v214 :: v215 :: v216 :: v217 :: v218 :: v219 :: v220 :: v221 :: v222 :: v223 :: v224 :: v225 :: v226 :: v227 :: v228 :: v229 :: v230 :: v231 :: v232 :: v233 :: v234 :: v235 :: v236 :: v237 :: v238 :: v239 :: v240 :: v241 :: v242 :: v243 :: v244 :: v245 :: v246 :: v247 :: v248 :: v249 :: v250 :: v251 :: v252 :: v253 :: v254 :: v255 :: v256 :: v257 :: v258 :: v259 :: v260 :: v261 :: v262 :: v263 :: v264 :: v265 :: v266 :: v267 :: v268 :: v269 :: v270 :: v271 :: v272 :: v273 :: v274 :: v275 :: v276 :: v277 :: v278 :: v279 :: v280 :: v281 :: v282 :: v283 :: v284 :: v285 :: v286 :: v287 :: v288 :: v289 :: v290 :: v291 :: v292 :: v293 :: v294 :: v295 :: v296 :: v297 :: v298 :: v299 :: v300 :: v301 :: v302 :: v303 :: v304 :: v305 :: v306 :: v307 :: v308 :: v309 :: v310 :: v311 :: v312 :: v313 :: v314 :: v315 :: v316 :: v317 :: v318 :: v319 :: v320 :: v321 :: v322 :: v323 :: v324 :: v325 :: v326 :: v327 :: v328 :: v329 :: v330 :: v331 :: v332 :: v333 :: v334 :: v335 :: v336 :: v337 :: v338 :: v339 :: v340 :: v341 :: v342 :: v343 :: v344 :: v345 :: v346 :: v347 :: v348 :: v349 :: v350 :: v351 :: v352 :: v353 :: v354 :: v355 :: v356 :: v357 :: v358 :: v359 :: v360 :: v361 :: v362 :: v363 :: v364 :: []), []⟩ w') :
    Code.wp Tryz.prog (rs 16 (Tryz.f3.body.getD .skip)) Qx ⟨List.toArray (u0 :: u1 :: u2 :: u3 :: u4 :: u5 :: u6 :: .pointer (some ⟨H.sb, 0, none⟩) :: .pointer (some ⟨H.rb, 0, none⟩) :: u9 :: u10 :: .slice (some ⟨b11, o11, none⟩) nn c11 :: .int .i64 obj :: .slice (some ⟨b13, o13, none⟩) n c13 :: .int .i64 (at_ : Int) :: .pointer (some ⟨xb, 0, none⟩) :: .bool al :: .int .i64 8 :: u18 :: u19 :: u20 :: u21 :: u22 :: u23 :: u24 :: u25 :: u26 :: u27 :: u28 :: u29 :: u30 :: u31 :: u32 :: u33 :: u34 :: u35 :: u36 :: u37 :: u38 :: u39 :: u40 :: u41 :: u42 :: u43 :: u44 :: u45 :: u46 :: u47 :: u48 :: u49 :: u50 :: u51 :: u52 :: u53 :: u54 :: u55 :: u56 :: u57 :: u58 :: u59 :: u60 :: u61 :: u62 :: u63 :: u64 :: u65 :: u66 :: u67 :: u68 :: u69 :: u70 :: u71 :: u72 :: u73 :: u74 :: u75 :: u76 :: u77 :: u78 :: u79 :: u80 :: u81 :: u82 :: u83 :: u84 :: u85 :: u86 :: u87 :: u88 :: u89 :: u90 :: u91 :: u92 :: u93 :: u94 :: u95 :: u96 :: u97 :: u98 :: u99 :: u100 :: u101 :: u102 :: u103 :: u104 :: u105 :: u106 :: u107 :: u108 :: u109 :: u110 :: u111 :: u112 :: u113 :: u114 :: u115 :: u116 :: u117 :: u118 :: u119 :: u120 :: u121 :: u122 :: u123 :: u124 :: u125 :: u126 :: u127 :: u128 :: u129 :: u130 :: u131 :: u132 :: u133 :: u134 :: u135 :: u136 :: u137 :: u138 :: u139 :: u140 :: u141 :: u142 :: u143 :: u144 :: u145 :: u146 :: u147 :: u148 :: u149 :: u150 :: u151 :: u152 :: u153 :: u154 :: u155 :: u156 :: u157 :: u158 :: u159 :: u160 :: u161 :: u162 :: u163 :: u164 :: u165 :: u166 :: u167 :: u168 :: u169 :: u170 :: u171 :: u172 :: u173 :: u174 :: u175 :: u176 :: u177 :: u178 :: u179 :: u180 :: u181 :: u182 :: u183 :: u184 :: u185 :: u186 :: u187 :: u188 :: u189 :: u190 :: u191 :: u192 :: u193 :: u194 :: u195 :: u196 :: u197 :: u198 :: u199 :: u200 :: u201 :: u202 :: u203 :: u204 :: u205 :: u206 :: u207 :: u208 :: u209 :: u210 :: u211 :: u212 :: u213 :: u214 :: u215 :: u216 :: u217 :: u218 :: u219 :: u220 :: u221 :: u222 :: u223 :: u224 :: u225 :: u226 :: u227 :: u228 :: u229 :: u230 :: u231 :: u232 :: u233 :: u234 :: u235 :: u236 :: u237 :: u238 :: u239 :: u240 :: u241 :: u242 :: u243 :: u244 :: u245 :: u246 :: u247 :: u248 :: u249 :: u250 :: u251 :: u252 :: u253 :: u254 :: u255 :: u256 :: u257 :: u258 :: u259 :: u260 :: u261 :: u262 :: u263 :: u264 :: u265 :: u266 :: u267 :: u268 :: u269 :: u270 :: u271 :: u272 :: u273 :: u274 :: u275 :: u276 :: u277 :: u278 :: u279 :: u280 :: u281 :: u282 :: u283 :: u284 :: u285 :: u286 :: u287 :: u288 :: u289 :: u290 :: u291 :: u292 :: u293 :: u294 :: u295 :: u296 :: u297 :: u298 :: u299 :: u300 :: u301 :: u302 :: u303 :: u304 :: u305 :: u306 :: u307 :: u308 :: u309 :: u310 :: u311 :: u312 :: u313 :: u314 :: u315 :: u316 :: u317 :: u318 :: u319 :: u320 :: u321 :: u322 :: u323 :: u324 :: u325 :: u326 :: u327 :: u328 :: u329 :: u330 :: u331 :: u332 :: u333 :: u334 :: u335 :: u336 :: u337 :: u338 :: u339 :: u340 :: u341 :: u342 :: u343 :: u344 :: u345 :: u346 :: u347 :: u348 :: u349 :: u350 :: u351 :: u352 :: u353 :: u354 :: u355 :: u356 :: u357 :: u358 :: u359 :: u360 :: u361 :: u362 :: u363 :: u364 :: []), []⟩ w := by
  conv => arg 2; whnf
  have hxm : x ∈ G true s.l r := List.mem_of_getElem? hxg
  have hxn := G_nums hf.inv.ok hxm
  have hwid := hf.inv.wide x hxn
  have hval := hf.inv.val x hxn
  have hxo : (tk s.X x).1.1 = obj := (hT.at_ at_ x hxg).2.1
  have hlen : n = (G true s.l r).length := by rw [hn, hT.len]
  have hin : at_ < n := by rw [hlen]; exact (List.getElem?_eq_some_iff.1 hxg).1
  have hn1 : n ≤ 1024 := by rw [hn, hOe]; have := Nat.le_trans (len_small hf.inv obj) h.hmo.2; omega
  obtain ⟨_, _, qx, hOx, _⟩ := hT.at_ at_ x hxg
  have c3 : w.cell? ⟨b13, o13 + at_ * 5 + 3, none⟩ = some (.int .i64 (rg s.X x)) := by
    obtain ⟨b', o', e', hc'⟩ := rt_at hO hOx
    cases e'
    exact hc'.c3
  refine Go.wp_seq ?_
  cases al
  · have hrev := rev_of hf.inv hr hro hxm false
    cases hp : partB (needB false) (rg s.X x) with
    | false =>
      rw [if_pos hp] at hrev
      refine rk_16f (d := s) (tk s.X x).1.1 (tk s.X x).1.2.1 (tk s.X x).1.2.2 xb 0 w h hwid (by rw [hxo]; exact hoi) hx hxb [] 4 s hrev rfl ?_
      intro a9 c9 w1 hW
      intros
      change Code.wp Tryz.prog _ _ _ _
      refine rk_no (s := s) (T := T) (N := N) obj 8 (rg s.X x) b13 o13 n c13 at_ c9 a9 O w1 hW.2.1 (hO.but hW.2.2 (fun k hk => by obtain ⟨z, hz, e⟩ := hk; cases hz; rw [← e]; exact hNO)) hOe hn (cell_but hW.2.2 c3 hNO) hin (by rw [and8 hval]; show (!partB 8 (rg s.X x)) = true; rw [show partB 8 (rg s.X x) = false from hp]; rfl) ?_
      intro w2 hB
      intros
      exact hK _ (hW.2.2.trans (But.of hB)) ..
    | true =>
      rw [if_neg (by rw [hp]; decide)] at hrev
      refine rk_16f (d := s) (tk s.X x).1.1 (tk s.X x).1.2.1 (tk s.X x).1.2.2 xb _ w h hwid (by rw [hxo]; exact hoi) hx hxb _ 0 _ hrev rfl ?_
      intro a9 c9 w1 hW
      intros
      change Code.wp Tryz.prog _ _ _ _
      have hxmm : x ∈ G true s.l r := hxm
      have hfA := (felled_fit (x := obj) hf (G_nums hf.inv.ok hxmm) ((G_obj hf.inv hxmm).trans hro) hW.2.1.inv).1
      refine rk_tail (s := s) (sA := felled s x obj) (T := T) (N := N) false r x x obj 8 b11 o11 nn c11 b13 o13 n c13 at_ _ c9 a9 O _ ids w1 ⟨hf.inv, hT, mem_nums.2 ⟨_, hr⟩, hxmm, hn, hxg, (fun e => by cases e), (fun _ => rfl), rfl, rfl, rfl, rfl, hoi, hn1⟩ hr hro rfl hfA hW.2.1 (hO.but hW.2.2 (fun k hk => by obtain ⟨z, hz, e⟩ := hk; cases hz; rw [← e]; exact hNO)) (hW.1.rd rfl) hNO (fun k hk => ⟨fun e => by have h1 := (h.rng k e).2.1; have h2 := (hW.1.blk k hk).1; omega, (hW.1.blk k hk).2⟩) (fun i y hy => cell_but hW.2.2 (hid_ i y hy) hNi) hNi hnn hnn2 hok hin (by rw [and8 hval]; show (!partB 8 (rg s.X x)) = false; rw [show partB 8 (rg s.X x) = true from hp]; rfl) ?_
      intro w2 hB
      intros
      exact hK _ (hW.2.2.trans hB) ..
  · have hrev := rev_of hf.inv hr hro hxm true
    cases hp : partB (needB true) (rg s.X x) with
    | false =>
      rw [if_pos hp] at hrev
      refine rk_16t (d := s) (tk s.X x).1.1 (tk s.X x).1.2.1 (tk s.X x).1.2.2 xb 0 w h hwid (by rw [hxo]; exact hoi) hx hxb [] 4 s hrev rfl ?_
      intro a9 c9 w1 hW
      intros
      change Code.wp Tryz.prog _ _ _ _
      refine rk_no (s := s) (T := T) (N := N) obj 16 (rg s.X x) b13 o13 n c13 at_ c9 a9 O w1 hW.2.1 (hO.but hW.2.2 (fun k hk => by obtain ⟨z, hz, e⟩ := hk; cases hz; rw [← e]; exact hNO)) hOe hn (cell_but hW.2.2 c3 hNO) hin (by rw [and16 hval]; show (!partB 16 (rg s.X x)) = true; rw [show partB 16 (rg s.X x) = false from hp]; rfl) ?_
      intro w2 hB
      intros
      exact hK _ (hW.2.2.trans (But.of hB)) ..
    | true =>
      rw [if_neg (by rw [hp]; decide)] at hrev
      refine rk_16t (d := s) (tk s.X x).1.1 (tk s.X x).1.2.1 (tk s.X x).1.2.2 xb _ w h hwid (by rw [hxo]; exact hoi) hx hxb _ 0 _ hrev rfl ?_
      intro a9 c9 w1 hW
      intros
      change Code.wp Tryz.prog _ _ _ _
      have hxmm : r ∈ G true s.l r := G_self hf.inv.ok (mem_nums.2 ⟨_, hr⟩)
      have hfA := (felled_fit (x := obj) hf (G_nums hf.inv.ok hxmm) ((G_obj hf.inv hxmm).trans hro) hW.2.1.inv).1
      refine rk_tail (s := s) (sA := felled s r obj) (T := T) (N := N) true r x r obj 16 b11 o11 nn c11 b13 o13 n c13 at_ _ c9 a9 O _ ids w1 ⟨hf.inv, hT, mem_nums.2 ⟨_, hr⟩, hxmm, hn, hxg, (fun _ => rfl), (fun e => by cases e), rfl, rfl, rfl, rfl, hoi, hn1⟩ hr hro rfl hfA hW.2.1 (hO.but hW.2.2 (fun k hk => by obtain ⟨z, hz, e⟩ := hk; cases hz; rw [← e]; exact hNO)) (hW.1.rd rfl) hNO (fun k hk => ⟨fun e => by have h1 := (h.rng k e).2.1; have h2 := (hW.1.blk k hk).1; omega, (hW.1.blk k hk).2⟩) (fun i y hy => cell_but hW.2.2 (hid_ i y hy) hNi) hNi hnn hnn2 hok hin (by rw [and16 hval]; show (!partB 16 (rg s.X x)) = false; rw [show partB 16 (rg s.X x) = true from hp]; rfl) ?_
      intro w2 hB
      intros
      exact hK _ (hW.2.2.trans hB) ..
end Go.Proofs.YtnjadfgfpebkdaaGreat.D
