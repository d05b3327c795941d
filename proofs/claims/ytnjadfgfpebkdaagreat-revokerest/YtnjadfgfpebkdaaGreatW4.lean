import Derived.Test.YtnjadfgfpebkdaaGreatW2
import Derived.Test.YtnjadfgfpebkdaaGreatW3
namespace Go.Proofs.YtnjadfgfpebkdaaGreat.D
open Go.RowKit
open Go.Proofs.YtnjadfgfpebkdaaGreat.H (B64 Cp cEq neqC)
set_option linter.unusedVariables false
set_option linter.unusedSimpArgs false
/-- What the second loop is about. -/
structure Gon (H : Hd) (s sA : Sta) (al : Bool) (r x xm : Int) (at_ n kn : Nat) (O : List Tok) (KL : List Cp) (o : Int) : Prop where
  inv : Inv H.mo s.X s.l
  told : Told s.X s.l o O (G true s.l r)
  root : r ∈ nums s.l
  xmr : xm ∈ G true s.l r
  len : n = O.length
  at_x : (G true s.l r)[at_]? = some x
  all : al = true → xm = r
  one : al = false → xm = x
  kl : KL = (G true s.l xm).map (fun k => (tk s.X k).1)
  kln : kn = KL.length
  sX : sA.X = zer s.X (G true s.l xm)
  sl : sA.l = cuts s.l (G true s.l xm)
  oi : S.i64ok o
  n1 : n ≤ 1024
theorem Gon.none {H : Hd} {s sA : Sta} {al : Bool} {r x xm : Int} {at_ n kn : Nat} {O : List Tok} {KL : List Cp} {o : Int} (h : Gon H s sA al r x xm at_ n kn O KL o) {y : Int} (hy : y ∈ G true s.l xm) : hasC sA.X sA.l (tk s.X y).1 = false := by
  cases hc : hasC sA.X sA.l (tk s.X y).1 with
  | false => rfl
  | true =>
    obtain ⟨z, hz, e⟩ := hasC_iff.1 hc
    rw [h.sl] at hz
    have hz2 := nums_cuts.1 hz
    rw [h.sX, zer_tk _ _ _ (nums_nn h.inv.ok hz2.1) (fun a ha => nums_nn h.inv.ok (G_nums h.inv.ok ha)) hz2.2] at e
    have := h.inv.one z hz2.1 y (G_nums h.inv.ok hy) e
    exact absurd (this ▸ hy) hz2.2
def L2I (w1 : World) (H : Hd) (sA s : Sta) (T : Nat) (N : Nat → Prop) (B1 B2 pb n : Nat) (O : List Tok) (cf : Nat → Bool) (t20 t22 t23 : Value) (W : World) : Prop :=
  ∃ (i : Nat) (a20 : Option Addr) (c20 : Nat), i ≤ n ∧ t20 = .slice a20 (stL O cf i).2.1.length c20 ∧ t22 = .int .i64 ((stL O cf i).1 : Int) ∧ t23 = .int .i64 (i : Int) ∧
    Hid (Ow W B2 47 5 a20 (stL O cf i).2.1.length c20 (toks (stL O cf i).2.1) ∧ Ow W B1 3 1 (some ⟨pb, 0, none⟩) n n (ints (stL O cf i).2.2) ∧ Duo W H sA s T N ∧ But (fun k => N k ∨ B1 ≤ k) w1 W ∧ B2 ≤ W.heap.size)
set_option maxRecDepth 1000000 in
set_option maxHeartbeats 4000000 in
theorem rk_rd {u0 u1 u2 u3 u4 u5 u6 u8 u9 u10 u11 u12 u15 u17 u19 u24 u25 u26 u27 u28 u29 u30 u31 u32 u33 u34 u35 u36 u37 u38 u39 u40 u41 u42 u43 u44 u45 u46 u47 u48 u49 u50 u51 u52 u53 u54 u55 u56 u57 u58 u59 u60 u61 u62 u63 u64 u65 u66 u67 u68 u69 u70 u71 u72 u73 u74 u75 u76 u77 u78 u79 u80 u81 u82 u83 u84 u85 u86 u87 u88 u89 u90 u91 u92 u93 u94 u95 u96 u97 u98 u99 u100 u101 u102 u103 u104 u105 u106 u107 u108 u109 u110 u111 u112 u113 u114 u115 u116 u117 u118 u119 u120 u121 u122 u123 u124 u125 u126 u127 u128 u129 u130 u131 u132 u133 u134 u135 u136 u137 u138 u139 u140 u141 u142 u143 u144 u145 u146 u147 u148 u149 u150 u151 u152 u153 u154 u155 u156 u157 u158 u159 u160 u161 u162 u163 u164 u165 u166 u167 u168 u169 u170 u171 u172 u173 u174 u175 u176 u177 u178 u179 u180 u181 u182 u183 u184 u185 u186 u187 u188 u189 u190 u191 u192 u193 u194 u195 u196 u197 u198 u199 u200 u201 u202 u203 u204 u205 u206 u207 u208 u209 u210 u211 u212 u213 u214 u215 u216 u217 u218 u219 u220 u221 u222 u223 u224 u225 u226 u227 u228 u229 u230 u231 u232 u233 u234 u235 u236 u237 u238 u239 u240 u241 u242 u243 u244 u245 u246 u247 u248 u249 u250 u251 u252 u253 u254 u255 u256 u257 u258 u259 u260 u261 u262 u263 u264 u265 u266 u267 u268 u269 u270 u271 u272 u273 u274 u275 u276 u277 u278 u279 u280 u281 u282 u283 u284 u285 u286 u287 u288 u289 u290 u291 u292 u293 u294 u295 u296 u297 u298 u299 u300 u301 u302 u303 u304 u305 u306 u307 u308 u309 u310 u311 u312 u313 u314 u315 u316 u317 u318 u319 u320 u321 u322 u323 u324 u325 u326 u327 u328 u329 u330 u331 u332 u333 u334 u335 u336 u337 u338 u339 u340 u341 u342 u343 u344 u345 u346 u347 u348 u349 u350 u351 u352 u353 u354 u355 u356 u357 u358 u359 u360 u361 u362 u363 u364 : Value} {Qx : Exit → Act → World → Prop} {H : Hd} {s sA : Sta} {T : Nat} {N : Nat → Prop} (al : Bool) (r x xm o : Int) (b13 o13 n c13 at_ kn c18 pb B1 B2 i c20 : Nat) (a18 a20 : Option Addr) (O : List Tok) (KL : List Cp) (w1 w : World) (hg : Gon H s sA al r x xm at_ n kn O KL o) (hO : Rt w1 (some ⟨b13, o13, none⟩) n O) (hKL : Rd w1 a18 kn KL) (hNO : ¬ N b13 ∧ b13 < B1) (hNK : ∀ k, Blk a18 k → ¬ N k ∧ k < B1) (hB : B1 ≤ pb ∧ pb < B2 ∧ B2 ≤ w1.heap.size) (hN : ∀ k, N k → k < B1) (hs : H.sb < B1 ∧ H.rb < B1) (hin : i < n) (hI : Ow w B2 47 5 a20 (stL O (cfOf s.l r xm) i).2.1.length c20 (toks (stL O (cfOf s.l r xm) i).2.1) ∧ Ow w B1 3 1 (some ⟨pb, 0, none⟩) n n (ints (stL O (cfOf s.l r xm) i).2.2) ∧ Duo w H sA s T N ∧ But (fun k => N k ∨ B1 ≤ k) w1 w ∧ B2 ≤ w.heap.size)
    (hK : ∀ (t20 t22 : Value) (w' : World), (L2I w1 H sA s T N B1 B2 pb n O (cfOf s.l r xm) t20 t22 (.int .i64 ((i : Int) + 1)) w') → ∀ (v6 v24 v25 v26 v27 v28 v176 v177 v178 v179 v180 v181 v182 v183 v184 v185 v186 v187 v188 v189 v190 v191 v192 v193 v194 v195 v196 v197 v198 v199 v200 v201 v202 v203 v204 v205 v206 v207 v208 v209 v210 v211 v212 v213 v214 v215 v216 v217 v218 v219 v220 v221 v222 v223 v224 v225 v226 v227 v228 v229 v230 v231 v232 v233 v234 v235 v236 v237 v238 v239 v240 v241 v242 v243 v244 v245 v246 v247 v248 v249 v250 v251 v252 v253 v254 v255 v256 v257 v258 v259 v260 v261 v262 v263 v264 v265 v266 v267 : Value), Qx .normal ⟨List.toArray (u0 :: u1 :: u2 :: u3 :: u4 :: u5 :: v6 :: .pointer (some ⟨H.sb, 0, none⟩) :: u8 :: u9 :: u10 :: u11 :: u12 :: .slice (some ⟨b13, o13, none⟩) n c13 :: .int .i64 (at_ : Int) :: u15 :: .bool al :: u17 :: .slice a18 kn c18 :: u19 :: t20 :: .slice (some ⟨pb, 0, none⟩) n n :: t22 :: .int .i64 ((i : Int) + 1) :: v24 :: v25 :: v26 :: v27 :: v28 :: u29 :: u30 :: u31 :: u32 :: u33 :: u34 :: u35 :: u36 :: u37 :: u38 :: u39 :: u40 :: u41 :: u42 :: u43 :: u44 :: u45 :: u46 :: u47 :: u48 :: u49 :: u50 :: u51 :: u52 :: u53 :: u54 :: u55 :: u56 :: u57 :: u58 :: u59 :: u60 :: u61 :: u62 :: u63 :: u64 :: u65 :: u66 :: u67 :: u68 :: u69 :: u70 :: u71 :: u72 :: u73 :: u74 :: u75 :: u76 :: u77 :: u78 :: u79 :: u80 :: u81 :: u82 :: u83 :: u84 :: u85 :: u86 :: u87 :: u88 :: u89 :: u90 :: u91 :: u92 :: u93 :: u94 :: u95 :: u96 :: u97 :: u98 :: u99 :: u100 :: u101 :: u102 :: u103 :: u104 :: u105 :: u106 :: u107 :: u108 :: u109 :: u110 :: u111 :: u112 :: u113 :: u114 :: u115 :: u116 :: u117 :: u118 :: u119 :: u120 :: u121 :: u122 :: u123 :: u124 :: u125 :: u126 :: u127 :: u128 :: u129 :: u130 :: u131 :: u132 :: u133 :: u134 :: u135 :: u136 :: u137 :: u138 :: u139 :: u140 :: u141 :: u142 :: u143 :: u144 :: u145 :: u146 :: u147 :: u148 :: u149 :: u150 :: u151 :: u152 :: u153 :: u154 :: u155 :: u156 :: u157 :: u158 :: u159 :: u160 :: u161 :: u162 :: u163 :: u164 :: u165 :: u166 :: u167 :: u168 :: u169 :: u170 :: u171 :: u172 :: u173 :: u174 :: u175 :: v176 :: v177 :: v178 :: v179 :: v180 :: v181 :: v182 :: v183 :: v184 :: v185 :: v186 :: v187 :: v188 :: v189 :: v190 :: v191 :: v192 :: v193 :: v194 :: v195 :: v196 :: v197 :: v198 :: v199 :: v200 :: v201 :: v202 :: v203 :: v204 :: v205 :: v206 :: v207 :: v208 :: v209 :: v210 :: v211 :: v212 :: v213 :: v214 :: v215 :: v216 :: v217 :: v218 :: v219 :: v220 :: v221 :: v222 :: v223 :: v224 :: v225 :: v226 :: v227 :: v228 :: v229 :: v230 :: v231 :: v232 :: v233 :: v234 :: v235 :: v236 :: v237 :: v238 :: v239 :: v240 :: v241 :: v242 :: v243 :: v244 :: v245 :: v246 :: v247 :: v248 :: v249 :: v250 :: v251 :: v252 :: v253 :: v254 :: v255 :: v256 :: v257 :: v258 :: v259 :: v260 :: v261 :: v262 :: v263 :: v264 :: v265 :: v266 :: v267 :: u268 :: u269 :: u270 :: u271 :: u272 :: u273 :: u274 :: u275 :: u276 :: u277 :: u278 :: u279 :: u280 :: u281 :: u282 :: u283 :: u284 :: u285 :: u286 :: u287 :: u288 :: u289 :: u290 :: u291 :: u292 :: u293 :: u294 :: u295 :: u296 :: u297 :: u298 :: u299 :: u300 :: u301 :: u302 :: u303 :: u304 :: u305 :: u306 :: u307 :: u308 :: u309 :: u310 :: u311 :: u312 :: u313 :: u314 :: u315 :: u316 :: u317 :: u318 :: u319 :: u320 :: u321 :: u322 :: u323 :: u324 :: u325 :: u326 :: u327 :: u328 :: u329 :: u330 :: u331 :: u332 :: u333 :: u334 :: u335 :: u336 :: u337 :: u338 :: u339 :: u340 :: u341 :: u342 :: u343 :: u344 :: u345 :: u346 :: u347 :: u348 :: u349 :: u350 :: u351 :: u352 :: u353 :: u354 :: u355 :: u356 :: u357 :: u358 :: u359 :: u360 :: u361 :: u362 :: u363 :: u364 :: []), []⟩ w') :
    Code.wp Tryz.prog (pI (pI (pR (el Tryz.f3.body 22)))) Qx ⟨List.toArray (u0 :: u1 :: u2 :: u3 :: u4 :: u5 :: u6 :: .pointer (some ⟨H.sb, 0, none⟩) :: u8 :: u9 :: u10 :: u11 :: u12 :: .slice (some ⟨b13, o13, none⟩) n c13 :: .int .i64 (at_ : Int) :: u15 :: .bool al :: u17 :: .slice a18 kn c18 :: u19 :: .slice a20 (stL O (cfOf s.l r xm) i).2.1.length c20 :: .slice (some ⟨pb, 0, none⟩) n n :: .int .i64 ((stL O (cfOf s.l r xm) i).1 : Int) :: .int .i64 (i : Int) :: u24 :: u25 :: u26 :: u27 :: u28 :: u29 :: u30 :: u31 :: u32 :: u33 :: u34 :: u35 :: u36 :: u37 :: u38 :: u39 :: u40 :: u41 :: u42 :: u43 :: u44 :: u45 :: u46 :: u47 :: u48 :: u49 :: u50 :: u51 :: u52 :: u53 :: u54 :: u55 :: u56 :: u57 :: u58 :: u59 :: u60 :: u61 :: u62 :: u63 :: u64 :: u65 :: u66 :: u67 :: u68 :: u69 :: u70 :: u71 :: u72 :: u73 :: u74 :: u75 :: u76 :: u77 :: u78 :: u79 :: u80 :: u81 :: u82 :: u83 :: u84 :: u85 :: u86 :: u87 :: u88 :: u89 :: u90 :: u91 :: u92 :: u93 :: u94 :: u95 :: u96 :: u97 :: u98 :: u99 :: u100 :: u101 :: u102 :: u103 :: u104 :: u105 :: u106 :: u107 :: u108 :: u109 :: u110 :: u111 :: u112 :: u113 :: u114 :: u115 :: u116 :: u117 :: u118 :: u119 :: u120 :: u121 :: u122 :: u123 :: u124 :: u125 :: u126 :: u127 :: u128 :: u129 :: u130 :: u131 :: u132 :: u133 :: u134 :: u135 :: u136 :: u137 :: u138 :: u139 :: u140 :: u141 :: u142 :: u143 :: u144 :: u145 :: u146 :: u147 :: u148 :: u149 :: u150 :: u151 :: u152 :: u153 :: u154 :: u155 :: u156 :: u157 :: u158 :: u159 :: u160 :: u161 :: u162 :: u163 :: u164 :: u165 :: u166 :: u167 :: u168 :: u169 :: u170 :: u171 :: u172 :: u173 :: u174 :: u175 :: u176 :: u177 :: u178 :: u179 :: u180 :: u181 :: u182 :: u183 :: u184 :: u185 :: u186 :: u187 :: u188 :: u189 :: u190 :: u191 :: u192 :: u193 :: u194 :: u195 :: u196 :: u197 :: u198 :: u199 :: u200 :: u201 :: u202 :: u203 :: u204 :: u205 :: u206 :: u207 :: u208 :: u209 :: u210 :: u211 :: u212 :: u213 :: u214 :: u215 :: u216 :: u217 :: u218 :: u219 :: u220 :: u221 :: u222 :: u223 :: u224 :: u225 :: u226 :: u227 :: u228 :: u229 :: u230 :: u231 :: u232 :: u233 :: u234 :: u235 :: u236 :: u237 :: u238 :: u239 :: u240 :: u241 :: u242 :: u243 :: u244 :: u245 :: u246 :: u247 :: u248 :: u249 :: u250 :: u251 :: u252 :: u253 :: u254 :: u255 :: u256 :: u257 :: u258 :: u259 :: u260 :: u261 :: u262 :: u263 :: u264 :: u265 :: u266 :: u267 :: u268 :: u269 :: u270 :: u271 :: u272 :: u273 :: u274 :: u275 :: u276 :: u277 :: u278 :: u279 :: u280 :: u281 :: u282 :: u283 :: u284 :: u285 :: u286 :: u287 :: u288 :: u289 :: u290 :: u291 :: u292 :: u293 :: u294 :: u295 :: u296 :: u297 :: u298 :: u299 :: u300 :: u301 :: u302 :: u303 :: u304 :: u305 :: u306 :: u307 :: u308 :: u309 :: u310 :: u311 :: u312 :: u313 :: u314 :: u315 :: u316 :: u317 :: u318 :: u319 :: u320 :: u321 :: u322 :: u323 :: u324 :: u325 :: u326 :: u327 :: u328 :: u329 :: u330 :: u331 :: u332 :: u333 :: u334 :: u335 :: u336 :: u337 :: u338 :: u339 :: u340 :: u341 :: u342 :: u343 :: u344 :: u345 :: u346 :: u347 :: u348 :: u349 :: u350 :: u351 :: u352 :: u353 :: u354 :: u355 :: u356 :: u357 :: u358 :: u359 :: u360 :: u361 :: u362 :: u363 :: u364 :: []), []⟩ w := by
  conv => arg 2; whnf
  have HGo := hid hg
  have HO := hid hO
  have HKL := hid hKL
  have HNO := hid hNO
  have HNK := hid hNK
  have HB := hid hB
  have HN := hid hN
  have HSb := hid hs
  have HK := hid hK
  have HI := hid hI
  have hn1 := hg.n1
  clear hg hO hKL hNO hNK hB hN hs hK hI
  obtain ⟨hL, hP, hD, hBu, hB2⟩ := HI.out
  have hgl : i < (G true s.l r).length := by rw [← HGo.out.told.len, ← HGo.out.len]; exact hin
  obtain ⟨y, hy⟩ : ∃ y, (G true s.l r)[i]? = some y := ⟨_, List.getElem?_eq_getElem hgl⟩
  obtain ⟨hyn, hyo, q, hOq, hqp⟩ := HGo.out.told.at_ i y hy
  have hfree : ∀ k, ¬ N k → k < B1 → ¬ (N k ∨ B1 ≤ k) := fun k h1 h2 h3 => h3.elim h1 (fun h4 => by omega)
  have hOw := HO.out.but hBu (fun k hk => by obtain ⟨z, hz, e⟩ := hk; cases hz; rw [← e]; exact hfree _ HNO.out.1 HNO.out.2)
  have hcet : Cet w b13 (o13 + i * 5) ((tk s.X y).1, rg s.X y, q) := by
    obtain ⟨b', o', e', hc'⟩ := rt_at hOw hOq
    cases e'
    exact hc'
  have hund : Calls Tryz.prog 16 #[.slice (some ⟨b13, o13, none⟩) n c13, .int .i64 (i : Int), .int .i64 (at_ : Int)] w fun e w' => e = .returned (.bool (decide (y ∈ G true s.l x))) ∧ w' = w := under_any HGo.out.inv.ok HGo.out.told c13 hOw hy HGo.out.at_x
  have hcf := cf_at (l := s.l) (r := r) (x := xm) hy
  have hwid := HGo.out.inv.wide y hyn
  have ho1 : (tk s.X y).1.1 = o := hyo
  obtain ⟨⟨e1, e2, e3⟩, hee⟩ : ∃ c : Cp, c = (tk s.X y).1 := ⟨_, rfl⟩
  rw [← hee] at hcet hwid ho1
  by_cases hc : y ∈ G true s.l xm
  · have hst : stL O (cfOf s.l r xm) (i + 1) = ((stL O (cfOf s.l r xm) i).1 + 1, (stL O (cfOf s.l r xm) i).2.1, (stL O (cfOf s.l r xm) i).2.2) := by
      conv => lhs; unfold stL
      rw [hcf, decide_eq_true hc]; rfl
    have hgone := gone_at (O := O) HGo.out.inv.ok HGo.out.root HGo.out.xmr HGo.out.told.len hy hc
    have hKk : KL[(stL O (cfOf s.l r xm) i).1]? = some (e1, e2, e3) := by rw [HGo.out.kl, List.getElem?_map, hgone, hee]; rfl
    have hkk : (stL O (cfOf s.l r xm) i).1 < kn := by rw [HGo.out.kln]; exact (List.getElem?_eq_some_iff.1 hKk).1
    have hknn : kn ≤ 1024 := by
      rw [HGo.out.kln, HGo.out.kl, List.length_map]
      exact Nat.le_trans (G_len HGo.out.inv.ok true xm) (by have := hD.hmo.2; omega)
    obtain ⟨b18, o18, e18, hc18⟩ := HKL.out.at_ (by omega)
    subst e18
    have hn18 := HNK.out b18 ⟨_, rfl, rfl⟩
    have hcel := (hc18 _ _ hKk).but hBu (hfree _ hn18.1 hn18.2)
    have hno := HGo.out.none hc
    rw [← hee] at hno
    refine rk_t (s := sA) (d := s) al b13 o13 n c13 at_ b18 o18 kn c18 (stL O (cfOf s.l r xm) i).2.1.length c20 pb (stL O (cfOf s.l r xm) i).1 i a20 e1 e2 e3 w hD hin hn1 hkk hknn (fun hal => by
      rw [HGo.out.one hal] at hc
      rw [decide_eq_true hc] at hund
      exact hund) ⟨hcet.c0, hcet.c1, hcet.c2⟩ hcel HNO.out.1 hwid (by have e0 : e1 = o := ho1; rw [e0]; exact HGo.out.oi) hno ?_
    intro w' hW
    have HI' : Hid (L2I w1 H sA s T N B1 B2 pb n O (cfOf s.l r xm) (.slice a20 (stL O (cfOf s.l r xm) i).2.1.length c20) (.int .i64 (((stL O (cfOf s.l r xm) i).1 : Int) + 1)) (.int .i64 ((i : Int) + 1)) w') := by
      refine ⟨i + 1, a20, c20, hin, ?_, ?_, rfl, hid ?_⟩
      · rw [hst]
      · rw [hst]; rfl
      · rw [hst]
        refine ⟨hL.but hW.2 (fun k hk e => by have := (hL.blk k hk).1; have := HN.out k e; have := HB.out; omega), hP.but hW.2 (fun k hk e => by obtain ⟨z, hz, ez⟩ := hk; cases hz; have ez' : pb = k := ez; have := HN.out k e; have := HB.out; omega), hW.1, hBu.trans (hW.2.mono (fun k hk => .inl hk)), Nat.le_trans hB2 hW.2.size⟩
    intros
    exact HK.out _ _ _ HI'.out ..
  · have hal : al = false := by
      cases ha : al with
      | false => rfl
      | true => rw [HGo.out.all ha] at hc; exact absurd (List.mem_of_getElem? hy) hc
    have hxx := HGo.out.one hal
    have hund2 := hund
    rw [← hxx, decide_eq_false hc] at hund2
    have hpick : pickN O i = ((tk s.X y).1, rg s.X y, q) := by unfold pickN; rw [hOq]; rfl
    obtain ⟨qq, hqq⟩ : ∃ qq, qq = (if 0 ≤ q then (stL O (cfOf s.l r xm) i).2.2[q.toNat]?.getD 0 else q) := ⟨_, rfl⟩
    have hst : stL O (cfOf s.l r xm) (i + 1) = ((stL O (cfOf s.l r xm) i).1, (stL O (cfOf s.l r xm) i).2.1 ++ [((e1, e2, e3), rg s.X y, qq)], (stL O (cfOf s.l r xm) i).2.2.set i ((stL O (cfOf s.l r xm) i).2.1.length : Int)) := by
      conv => lhs; unfold stL
      rw [hcf, decide_eq_false hc, hpick, ← hee, hqq]; rfl
    have hpl := stL_plen O (cfOf s.l r xm) i
    rw [← HGo.out.len] at hpl
    have hpp : (q < 0 ∧ qq = q) ∨ ∃ p : Nat, q = (p : Int) ∧ p < n ∧ (stL O (cfOf s.l r xm) i).2.2[p]? = some qq := by
      rcases hqp with ⟨_, g2, _⟩ | ⟨_, p, g1, g2, _⟩
      · left
        rw [hqq, g2, if_neg (by decide)]; exact ⟨by decide, rfl⟩
      · right
        refine ⟨p, g2, by omega, ?_⟩
        rw [hqq, g2, if_pos (by omega), Int.toNat_natCast, List.getElem?_eq_getElem (by omega)]; rfl
    have hml : (stL O (cfOf s.l r xm) i).2.1.length ≤ 1024 := by have := stL_llen O (cfOf s.l r xm) i; omega
    subst hal
    refine rk_f (H := H) (s := s) (d := s) (T := T) (N := N) b13 o13 n c13 at_ kn c18 (stL O (cfOf s.l r xm) i).2.1.length c20 pb (stL O (cfOf s.l r xm) i).1 i B1 B2 a18 a20 e1 e2 e3 (rg s.X y) q qq (stL O (cfOf s.l r xm) i).2.1 (stL O (cfOf s.l r xm) i).2.2 w hin hn1 hml hund2 hcet hP hL ⟨HB.out.1, HB.out.2.1, hB2⟩ hpp ?_
    intro a9 c9 w' hW
    have HI' : Hid (L2I w1 H sA s T N B1 B2 pb n O (cfOf s.l r xm) (.slice a9 ((stL O (cfOf s.l r xm) i).2.1.length + 1) c9) (.int .i64 ((stL O (cfOf s.l r xm) i).1 : Int)) (.int .i64 ((i : Int) + 1)) w') := by
      refine ⟨i + 1, a9, c9, hin, ?_, ?_, rfl, hid ?_⟩
      · rw [hst]; simp
      · rw [hst]
      · rw [hst]
        simp only [List.length_append, List.length_singleton]
        exact ⟨hW.2.1, hW.1, hD.but hW.2.2 (fun k hk e => by have := HN.out k hk; have e' : B1 ≤ k := e; omega) (fun e => by have e' : B1 ≤ H.sb := e; have := HSb.out; omega) (fun e => by have e' : B1 ≤ H.rb := e; have := HSb.out; omega), hBu.trans (hW.2.2.mono (fun k hk => .inr hk)), Nat.le_trans hB2 hW.2.2.size⟩
    intros
    exact HK.out _ _ _ HI'.out ..
end Go.Proofs.YtnjadfgfpebkdaaGreat.D
