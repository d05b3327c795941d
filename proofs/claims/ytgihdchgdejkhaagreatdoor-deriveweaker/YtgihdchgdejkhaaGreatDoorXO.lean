import Derived.Test.YtgihdchgdejkhaaGreatDoorXM
import Derived.Test.YtgihdchgdejkhaaGreatDoorXN
namespace Go.Proofs.YtgihdchgdejkhaaGreatDoor.D
open Go.RowKit
open Go.Proofs.YtgihdchgdejkhaaGreatDoor.H (B64 Cp)
set_option linter.unusedVariables false
set_option linter.unusedSimpArgs false
def JRl (w : World) (k : Nat) (t : Value) (W : World) : Prop := ∃ j : Nat, j ≤ k ∧ t = .int .i64 (j : Int) ∧ Below w.heap.size w W
set_option maxRecDepth 1000000 in
set_option maxHeartbeats 4000000 in
theorem wk_b4 {u0 u1 u2 u3 u4 u5 u6 u7 u8 u9 u10 u11 u12 u13 u15 u16 u20 u21 u22 u23 u24 u25 u26 u27 u28 u29 u30 u31 u32 u33 u34 u35 u36 u37 u38 u39 u40 u41 u42 u43 u44 u45 u46 u47 u48 u49 u50 u51 u52 u53 u54 u55 u56 u57 u58 u59 u60 u61 u62 u63 u64 u65 u66 u67 u68 u69 u70 u71 u72 u73 u74 u75 u76 u77 u78 u79 u80 u81 u82 u83 u84 u85 u86 u87 u88 u89 u90 u91 u92 u93 u94 u95 u96 u97 u98 u99 u100 u101 u102 u103 u104 u105 u106 u107 u108 u109 u110 u111 u112 u113 u114 u115 u116 u117 u118 u119 u120 u121 u122 u123 u124 u125 u126 u127 u128 u129 u130 u131 u132 u133 u134 u135 u136 u137 u138 u139 u140 u141 u142 u143 u144 u145 u146 u147 u148 u149 u150 u151 u152 u153 u154 u155 u156 u157 u158 u159 u160 u161 u162 u163 u164 u165 u166 u167 u168 u169 u170 u171 u172 u173 u174 u175 u176 u177 u178 u179 u180 u181 u182 u183 u184 u185 u186 u187 u188 u189 u190 u191 u192 u193 u194 u195 u196 u197 u198 u199 u200 u201 u202 u203 u204 u205 u206 u207 u208 u209 u210 u211 u212 u213 u214 u215 u216 u217 u218 u219 u220 u221 u222 u223 u224 u225 u226 u227 u228 u229 u230 u231 u232 u233 u234 u235 u236 u237 u238 u239 u240 u241 u242 u243 u244 u245 u246 u247 u248 u249 u250 u251 u252 u253 u254 u255 u256 u257 u258 u259 u260 u261 u262 u263 u264 u265 u266 u267 u268 u269 u270 u271 u272 u273 u274 u275 u276 u277 u278 u279 u280 u281 u282 u283 u284 u285 u286 u287 u288 u289 u290 u291 u292 u293 u294 u295 u296 u297 u298 u299 u300 u301 u302 u303 u304 u305 u306 u307 u308 u309 u310 u311 u312 u313 u314 u315 u316 u317 u318 u319 u320 u321 u322 u323 u324 : Value} {Qx : Exit → Act → World → Prop} (bt m2 c6 k : Nat) (a6 : Option Addr) (O : List Tok) (ta : Tok) (w : World) (h6 : Rt w a6 m2 O) (hm : m2 ≤ 1025) (hk : k < m2) (hta : O[k]? = some ta) (hCt : Cw w bt ta.1) (hone : ∀ (j : Nat) (a : Tok), j < k → O[j]? = some a → a.1 ≠ ta.1)
    (hK : ∀ (w' : World), Below w.heap.size w w' → ∀ (v4 v19 v245 v246 v247 v248 v249 v250 v251 v252 v253 v254 v255 v256 v257 : Value), Qx (.exit 4) ⟨List.toArray (u0 :: u1 :: u2 :: u3 :: v4 :: u5 :: u6 :: u7 :: u8 :: u9 :: u10 :: u11 :: u12 :: u13 :: .slice a6 m2 c6 :: u15 :: u16 :: .int .i64 (k : Int) :: .pointer (some ⟨bt, 0, none⟩) :: v19 :: u20 :: u21 :: u22 :: u23 :: u24 :: u25 :: u26 :: u27 :: u28 :: u29 :: u30 :: u31 :: u32 :: u33 :: u34 :: u35 :: u36 :: u37 :: u38 :: u39 :: u40 :: u41 :: u42 :: u43 :: u44 :: u45 :: u46 :: u47 :: u48 :: u49 :: u50 :: u51 :: u52 :: u53 :: u54 :: u55 :: u56 :: u57 :: u58 :: u59 :: u60 :: u61 :: u62 :: u63 :: u64 :: u65 :: u66 :: u67 :: u68 :: u69 :: u70 :: u71 :: u72 :: u73 :: u74 :: u75 :: u76 :: u77 :: u78 :: u79 :: u80 :: u81 :: u82 :: u83 :: u84 :: u85 :: u86 :: u87 :: u88 :: u89 :: u90 :: u91 :: u92 :: u93 :: u94 :: u95 :: u96 :: u97 :: u98 :: u99 :: u100 :: u101 :: u102 :: u103 :: u104 :: u105 :: u106 :: u107 :: u108 :: u109 :: u110 :: u111 :: u112 :: u113 :: u114 :: u115 :: u116 :: u117 :: u118 :: u119 :: u120 :: u121 :: u122 :: u123 :: u124 :: u125 :: u126 :: u127 :: u128 :: u129 :: u130 :: u131 :: u132 :: u133 :: u134 :: u135 :: u136 :: u137 :: u138 :: u139 :: u140 :: u141 :: u142 :: u143 :: u144 :: u145 :: u146 :: u147 :: u148 :: u149 :: u150 :: u151 :: u152 :: u153 :: u154 :: u155 :: u156 :: u157 :: u158 :: u159 :: u160 :: u161 :: u162 :: u163 :: u164 :: u165 :: u166 :: u167 :: u168 :: u169 :: u170 :: u171 :: u172 :: u173 :: u174 :: u175 :: u176 :: u177 :: u178 :: u179 :: u180 :: u181 :: u182 :: u183 :: u184 :: u185 :: u186 :: u187 :: u188 :: u189 :: u190 :: u191 :: u192 :: u193 :: u194 :: u195 :: u196 :: u197 :: u198 :: u199 :: u200 :: u201 :: u202 :: u203 :: u204 :: u205 :: u206 :: u207 :: u208 :: u209 :: u210 :: u211 :: u212 :: u213 :: u214 :: u215 :: u216 :: u217 :: u218 :: u219 :: u220 :: u221 :: u222 :: u223 :: u224 :: u225 :: u226 :: u227 :: u228 :: u229 :: u230 :: u231 :: u232 :: u233 :: u234 :: u235 :: u236 :: u237 :: u238 :: u239 :: u240 :: u241 :: u242 :: u243 :: u244 :: v245 :: v246 :: v247 :: v248 :: v249 :: v250 :: v251 :: v252 :: v253 :: v254 :: v255 :: v256 :: v257 :: u258 :: u259 :: u260 :: u261 :: u262 :: u263 :: u264 :: u265 :: u266 :: u267 :: u268 :: u269 :: u270 :: u271 :: u272 :: u273 :: u274 :: u275 :: u276 :: u277 :: u278 :: u279 :: u280 :: u281 :: u282 :: u283 :: u284 :: u285 :: u286 :: u287 :: u288 :: u289 :: u290 :: u291 :: u292 :: u293 :: u294 :: u295 :: u296 :: u297 :: u298 :: u299 :: u300 :: u301 :: u302 :: u303 :: u304 :: u305 :: u306 :: u307 :: u308 :: u309 :: u310 :: u311 :: u312 :: u313 :: u314 :: u315 :: u316 :: u317 :: u318 :: u319 :: u320 :: u321 :: u322 :: u323 :: u324 :: []), []⟩ w') :
    Code.wp Tryz.prog (pI (pR (pL (rs 1 (b3 Tryz.f4.body))))) Qx ⟨List.toArray (u0 :: u1 :: u2 :: u3 :: u4 :: u5 :: u6 :: u7 :: u8 :: u9 :: u10 :: u11 :: u12 :: u13 :: .slice a6 m2 c6 :: u15 :: u16 :: .int .i64 (k : Int) :: .pointer (some ⟨bt, 0, none⟩) :: .int .i64 0 :: u20 :: u21 :: u22 :: u23 :: u24 :: u25 :: u26 :: u27 :: u28 :: u29 :: u30 :: u31 :: u32 :: u33 :: u34 :: u35 :: u36 :: u37 :: u38 :: u39 :: u40 :: u41 :: u42 :: u43 :: u44 :: u45 :: u46 :: u47 :: u48 :: u49 :: u50 :: u51 :: u52 :: u53 :: u54 :: u55 :: u56 :: u57 :: u58 :: u59 :: u60 :: u61 :: u62 :: u63 :: u64 :: u65 :: u66 :: u67 :: u68 :: u69 :: u70 :: u71 :: u72 :: u73 :: u74 :: u75 :: u76 :: u77 :: u78 :: u79 :: u80 :: u81 :: u82 :: u83 :: u84 :: u85 :: u86 :: u87 :: u88 :: u89 :: u90 :: u91 :: u92 :: u93 :: u94 :: u95 :: u96 :: u97 :: u98 :: u99 :: u100 :: u101 :: u102 :: u103 :: u104 :: u105 :: u106 :: u107 :: u108 :: u109 :: u110 :: u111 :: u112 :: u113 :: u114 :: u115 :: u116 :: u117 :: u118 :: u119 :: u120 :: u121 :: u122 :: u123 :: u124 :: u125 :: u126 :: u127 :: u128 :: u129 :: u130 :: u131 :: u132 :: u133 :: u134 :: u135 :: u136 :: u137 :: u138 :: u139 :: u140 :: u141 :: u142 :: u143 :: u144 :: u145 :: u146 :: u147 :: u148 :: u149 :: u150 :: u151 :: u152 :: u153 :: u154 :: u155 :: u156 :: u157 :: u158 :: u159 :: u160 :: u161 :: u162 :: u163 :: u164 :: u165 :: u166 :: u167 :: u168 :: u169 :: u170 :: u171 :: u172 :: u173 :: u174 :: u175 :: u176 :: u177 :: u178 :: u179 :: u180 :: u181 :: u182 :: u183 :: u184 :: u185 :: u186 :: u187 :: u188 :: u189 :: u190 :: u191 :: u192 :: u193 :: u194 :: u195 :: u196 :: u197 :: u198 :: u199 :: u200 :: u201 :: u202 :: u203 :: u204 :: u205 :: u206 :: u207 :: u208 :: u209 :: u210 :: u211 :: u212 :: u213 :: u214 :: u215 :: u216 :: u217 :: u218 :: u219 :: u220 :: u221 :: u222 :: u223 :: u224 :: u225 :: u226 :: u227 :: u228 :: u229 :: u230 :: u231 :: u232 :: u233 :: u234 :: u235 :: u236 :: u237 :: u238 :: u239 :: u240 :: u241 :: u242 :: u243 :: u244 :: u245 :: u246 :: u247 :: u248 :: u249 :: u250 :: u251 :: u252 :: u253 :: u254 :: u255 :: u256 :: u257 :: u258 :: u259 :: u260 :: u261 :: u262 :: u263 :: u264 :: u265 :: u266 :: u267 :: u268 :: u269 :: u270 :: u271 :: u272 :: u273 :: u274 :: u275 :: u276 :: u277 :: u278 :: u279 :: u280 :: u281 :: u282 :: u283 :: u284 :: u285 :: u286 :: u287 :: u288 :: u289 :: u290 :: u291 :: u292 :: u293 :: u294 :: u295 :: u296 :: u297 :: u298 :: u299 :: u300 :: u301 :: u302 :: u303 :: u304 :: u305 :: u306 :: u307 :: u308 :: u309 :: u310 :: u311 :: u312 :: u313 :: u314 :: u315 :: u316 :: u317 :: u318 :: u319 :: u320 :: u321 :: u322 :: u323 :: u324 :: []), []⟩ w := by
  conv => arg 2; whnf
  obtain ⟨tb, tu, rfl, hcells⟩ := h6.at_ (by omega)
  have hln := h6.len
  have HC := hid hcells
  have HCt := hid hCt
  have HOne := hid hone
  have HK := hid hK
  clear h6 hta hCt hone hK hcells
  go_loopw [19] (JRl w k) (fun t _ => k - (intOf t).toNat)
  case atStart => exact ⟨0, Nat.zero_le _, rfl, Below.refl _ _⟩
  case round =>
    obtain ⟨j, hj, rfl, hB⟩ := hrel
    have HB := hid hB
    by_cases hlt : j < k
    · obtain ⟨a, ha⟩ : ∃ a, O[j]? = some a := ⟨_, List.getElem?_eq_getElem (by omega)⟩
      obtain ⟨x0, x1, x2, x3, x4⟩ := (HC.out j a ha).later hB
      obtain ⟨y0, y1, y2⟩ := HCt.out.but (S := fun _ => False) (But.of hB) (fun h => h)
      have hq := cEq_ne (HOne.out j a hlt ha)
      have heq := fun W => Go.Proofs.YtgihdchgdejkhaaGreatDoor.H.eqlC a.1.1 (a.1.2.1 : Int) (a.1.2.2 : Int) ta.1.1 (ta.1.2.1 : Int) (ta.1.2.2 : Int) W
      simp only [hq] at heq
      have hd : decide ((j : Int) < (k : Int)) = true := decide_eq_true (by omega)
      have hd2 : (j : Int) < (k : Int) := by omega
      have hd3 : (j : Int) < (m2 : Int) := by omega
      clear hB ha hq
      go_upto_region 33 with fail
      go_quiet (fail)
      go_wp2
      exact ⟨⟨j + 1, by omega, by go_num, below_drewN HB.out _⟩, by simp [intOf]; omega⟩
    · obtain rfl : j = k := by omega
      have hd2 : ¬ (j : Int) < (j : Int) := by omega
      clear hB
      go_wp2
      exact HK.out _ HB.out ..
end Go.Proofs.YtgihdchgdejkhaaGreatDoor.D
namespace Go.Proofs.YtgihdchgdejkhaaGreatDoor.D
open Go.RowKit
open Go.Proofs.YtgihdchgdejkhaaGreatDoor.H (B64 Cp)
set_option linter.unusedVariables false
set_option linter.unusedSimpArgs false
def KRl (w : World) (kx m2 : Nat) (f t : Value) (W : World) : Prop := ∃ (k : Nat) (fo : Int), k ≤ m2 ∧ t = .int .i64 (k : Int) ∧ f = .int .i64 fo ∧ Hid (fo = if kx < k then 1 else 0) ∧ Hid (Below w.heap.size w W)
set_option maxRecDepth 1000000 in
set_option maxHeartbeats 8000000 in
theorem wk_b2 {u0 u1 u2 u3 u4 u5 u6 u7 u8 u9 u10 u11 u13 u15 u18 u19 u20 u21 u22 u23 u24 u25 u26 u27 u28 u29 u30 u31 u32 u33 u34 u35 u36 u37 u38 u39 u40 u41 u42 u43 u44 u45 u46 u47 u48 u49 u50 u51 u52 u53 u54 u55 u56 u57 u58 u59 u60 u61 u62 u63 u64 u65 u66 u67 u68 u69 u70 u71 u72 u73 u74 u75 u76 u77 u78 u79 u80 u81 u82 u83 u84 u85 u86 u87 u88 u89 u90 u91 u92 u93 u94 u95 u96 u97 u98 u99 u100 u101 u102 u103 u104 u105 u106 u107 u108 u109 u110 u111 u112 u113 u114 u115 u116 u117 u118 u119 u120 u121 u122 u123 u124 u125 u126 u127 u128 u129 u130 u131 u132 u133 u134 u135 u136 u137 u138 u139 u140 u141 u142 u143 u144 u145 u146 u147 u148 u149 u150 u151 u152 u153 u154 u155 u156 u157 u158 u159 u160 u161 u162 u163 u164 u165 u166 u167 u168 u169 u170 u171 u172 u173 u174 u175 u176 u177 u178 u179 u180 u181 u182 u183 u184 u185 u186 u187 u188 u189 u190 u191 u192 u193 u194 u195 u196 u197 u198 u199 u200 u201 u202 u203 u204 u205 u206 u207 u208 u209 u210 u211 u212 u213 u214 u215 u216 u217 u218 u219 u220 u221 u222 u223 u224 u225 u226 u227 u228 u229 u230 u231 u232 u233 u234 u235 u236 u237 u238 u239 u240 u241 u242 u243 u244 u245 u246 u247 u248 u249 u250 u251 u252 u253 u254 u255 u256 u257 u258 u259 u260 u261 u262 u263 u264 u265 u266 u267 u268 u269 u270 u271 u272 u273 u274 u275 u276 u277 u278 u279 u280 u281 u282 u283 u284 u285 u286 u287 u288 u289 u290 u291 u292 u293 u294 u295 u296 u297 u298 u299 u300 u301 u302 u303 u304 u305 u306 u307 u308 u309 u310 u311 u312 u313 u314 u315 u316 u317 u318 u319 u320 u321 u322 u323 u324 : Value} {Qx : Exit → Act → World → Prop} (bx m2 c6 : Nat) (a6 : Option Addr) (O : List Tok) (x : Cp) (w : World) (h6 : Rt w a6 m2 O) (hm : m2 ≤ 1025) (hN : NowP O x) (hCx : Cw w bx x)
    (hK : ∀ (w' : World), Below w.heap.size w w' → ∀ (v4 v17 v18 v19 v20 v235 v236 v237 v238 v239 v240 v241 v242 v243 v244 v245 v246 v247 v248 v249 v250 v251 v252 v253 v254 v255 v256 v257 v258 v259 v260 v261 v262 v263 v264 v265 v266 v267 v268 v269 v270 v271 v272 v273 v274 v275 v276 v277 v278 v279 v280 v281 v282 v283 v284 v285 v286 v287 v288 v289 v290 v291 v292 v293 v294 v295 v296 v297 v298 v299 v300 v301 v302 v303 v304 v305 v306 v307 v308 v309 v310 v311 v312 v313 v314 v315 : Value), Qx (.exit 2) ⟨List.toArray (u0 :: u1 :: u2 :: u3 :: v4 :: u5 :: u6 :: u7 :: u8 :: u9 :: u10 :: u11 :: .pointer (some ⟨bx, 0, none⟩) :: u13 :: .slice a6 m2 c6 :: u15 :: .int .i64 1 :: v17 :: v18 :: v19 :: v20 :: u21 :: u22 :: u23 :: u24 :: u25 :: u26 :: u27 :: u28 :: u29 :: u30 :: u31 :: u32 :: u33 :: u34 :: u35 :: u36 :: u37 :: u38 :: u39 :: u40 :: u41 :: u42 :: u43 :: u44 :: u45 :: u46 :: u47 :: u48 :: u49 :: u50 :: u51 :: u52 :: u53 :: u54 :: u55 :: u56 :: u57 :: u58 :: u59 :: u60 :: u61 :: u62 :: u63 :: u64 :: u65 :: u66 :: u67 :: u68 :: u69 :: u70 :: u71 :: u72 :: u73 :: u74 :: u75 :: u76 :: u77 :: u78 :: u79 :: u80 :: u81 :: u82 :: u83 :: u84 :: u85 :: u86 :: u87 :: u88 :: u89 :: u90 :: u91 :: u92 :: u93 :: u94 :: u95 :: u96 :: u97 :: u98 :: u99 :: u100 :: u101 :: u102 :: u103 :: u104 :: u105 :: u106 :: u107 :: u108 :: u109 :: u110 :: u111 :: u112 :: u113 :: u114 :: u115 :: u116 :: u117 :: u118 :: u119 :: u120 :: u121 :: u122 :: u123 :: u124 :: u125 :: u126 :: u127 :: u128 :: u129 :: u130 :: u131 :: u132 :: u133 :: u134 :: u135 :: u136 :: u137 :: u138 :: u139 :: u140 :: u141 :: u142 :: u143 :: u144 :: u145 :: u146 :: u147 :: u148 :: u149 :: u150 :: u151 :: u152 :: u153 :: u154 :: u155 :: u156 :: u157 :: u158 :: u159 :: u160 :: u161 :: u162 :: u163 :: u164 :: u165 :: u166 :: u167 :: u168 :: u169 :: u170 :: u171 :: u172 :: u173 :: u174 :: u175 :: u176 :: u177 :: u178 :: u179 :: u180 :: u181 :: u182 :: u183 :: u184 :: u185 :: u186 :: u187 :: u188 :: u189 :: u190 :: u191 :: u192 :: u193 :: u194 :: u195 :: u196 :: u197 :: u198 :: u199 :: u200 :: u201 :: u202 :: u203 :: u204 :: u205 :: u206 :: u207 :: u208 :: u209 :: u210 :: u211 :: u212 :: u213 :: u214 :: u215 :: u216 :: u217 :: u218 :: u219 :: u220 :: u221 :: u222 :: u223 :: u224 :: u225 :: u226 :: u227 :: u228 :: u229 :: u230 :: u231 :: u232 :: u233 :: u234 :: v235 :: v236 :: v237 :: v238 :: v239 :: v240 :: v241 :: v242 :: v243 :: v244 :: v245 :: v246 :: v247 :: v248 :: v249 :: v250 :: v251 :: v252 :: v253 :: v254 :: v255 :: v256 :: v257 :: v258 :: v259 :: v260 :: v261 :: v262 :: v263 :: v264 :: v265 :: v266 :: v267 :: v268 :: v269 :: v270 :: v271 :: v272 :: v273 :: v274 :: v275 :: v276 :: v277 :: v278 :: v279 :: v280 :: v281 :: v282 :: v283 :: v284 :: v285 :: v286 :: v287 :: v288 :: v289 :: v290 :: v291 :: v292 :: v293 :: v294 :: v295 :: v296 :: v297 :: v298 :: v299 :: v300 :: v301 :: v302 :: v303 :: v304 :: v305 :: v306 :: v307 :: v308 :: v309 :: v310 :: v311 :: v312 :: v313 :: v314 :: v315 :: u316 :: u317 :: u318 :: u319 :: u320 :: u321 :: u322 :: u323 :: u324 :: []), []⟩ w') :
    Code.wp Tryz.prog (pI (pR (c4 Tryz.f4.body 11))) Qx ⟨List.toArray (u0 :: u1 :: u2 :: u3 :: u4 :: u5 :: u6 :: u7 :: u8 :: u9 :: u10 :: u11 :: .pointer (some ⟨bx, 0, none⟩) :: u13 :: .slice a6 m2 c6 :: u15 :: .int .i64 0 :: .int .i64 0 :: u18 :: u19 :: u20 :: u21 :: u22 :: u23 :: u24 :: u25 :: u26 :: u27 :: u28 :: u29 :: u30 :: u31 :: u32 :: u33 :: u34 :: u35 :: u36 :: u37 :: u38 :: u39 :: u40 :: u41 :: u42 :: u43 :: u44 :: u45 :: u46 :: u47 :: u48 :: u49 :: u50 :: u51 :: u52 :: u53 :: u54 :: u55 :: u56 :: u57 :: u58 :: u59 :: u60 :: u61 :: u62 :: u63 :: u64 :: u65 :: u66 :: u67 :: u68 :: u69 :: u70 :: u71 :: u72 :: u73 :: u74 :: u75 :: u76 :: u77 :: u78 :: u79 :: u80 :: u81 :: u82 :: u83 :: u84 :: u85 :: u86 :: u87 :: u88 :: u89 :: u90 :: u91 :: u92 :: u93 :: u94 :: u95 :: u96 :: u97 :: u98 :: u99 :: u100 :: u101 :: u102 :: u103 :: u104 :: u105 :: u106 :: u107 :: u108 :: u109 :: u110 :: u111 :: u112 :: u113 :: u114 :: u115 :: u116 :: u117 :: u118 :: u119 :: u120 :: u121 :: u122 :: u123 :: u124 :: u125 :: u126 :: u127 :: u128 :: u129 :: u130 :: u131 :: u132 :: u133 :: u134 :: u135 :: u136 :: u137 :: u138 :: u139 :: u140 :: u141 :: u142 :: u143 :: u144 :: u145 :: u146 :: u147 :: u148 :: u149 :: u150 :: u151 :: u152 :: u153 :: u154 :: u155 :: u156 :: u157 :: u158 :: u159 :: u160 :: u161 :: u162 :: u163 :: u164 :: u165 :: u166 :: u167 :: u168 :: u169 :: u170 :: u171 :: u172 :: u173 :: u174 :: u175 :: u176 :: u177 :: u178 :: u179 :: u180 :: u181 :: u182 :: u183 :: u184 :: u185 :: u186 :: u187 :: u188 :: u189 :: u190 :: u191 :: u192 :: u193 :: u194 :: u195 :: u196 :: u197 :: u198 :: u199 :: u200 :: u201 :: u202 :: u203 :: u204 :: u205 :: u206 :: u207 :: u208 :: u209 :: u210 :: u211 :: u212 :: u213 :: u214 :: u215 :: u216 :: u217 :: u218 :: u219 :: u220 :: u221 :: u222 :: u223 :: u224 :: u225 :: u226 :: u227 :: u228 :: u229 :: u230 :: u231 :: u232 :: u233 :: u234 :: u235 :: u236 :: u237 :: u238 :: u239 :: u240 :: u241 :: u242 :: u243 :: u244 :: u245 :: u246 :: u247 :: u248 :: u249 :: u250 :: u251 :: u252 :: u253 :: u254 :: u255 :: u256 :: u257 :: u258 :: u259 :: u260 :: u261 :: u262 :: u263 :: u264 :: u265 :: u266 :: u267 :: u268 :: u269 :: u270 :: u271 :: u272 :: u273 :: u274 :: u275 :: u276 :: u277 :: u278 :: u279 :: u280 :: u281 :: u282 :: u283 :: u284 :: u285 :: u286 :: u287 :: u288 :: u289 :: u290 :: u291 :: u292 :: u293 :: u294 :: u295 :: u296 :: u297 :: u298 :: u299 :: u300 :: u301 :: u302 :: u303 :: u304 :: u305 :: u306 :: u307 :: u308 :: u309 :: u310 :: u311 :: u312 :: u313 :: u314 :: u315 :: u316 :: u317 :: u318 :: u319 :: u320 :: u321 :: u322 :: u323 :: u324 :: []), []⟩ w := by
  conv => arg 2; whnf
  obtain ⟨kx, ax, hax, hx⟩ := hN.k0
  have hln := h6.len
  have hkx : kx < m2 := by have := (List.getElem?_eq_some_iff.1 hax).1; omega
  obtain ⟨tb, tu, rfl, hcells⟩ := h6.at_ (by omega)
  have H6 := hid h6
  have HC := hid hcells
  have HN := hid hN
  have HCx := hid hCx
  have HAx := hid (And.intro hax hx)
  have HK := hid hK
  clear h6 hN hCx hK hcells hax hx
  go_loopw [16, 17] (KRl w kx m2) (fun _ t _ => m2 - (intOf t).toNat)
  case atStart => exact ⟨0, 0, Nat.zero_le _, rfl, rfl, by unfold Hid; rw [if_neg (Nat.not_lt_zero _)], Below.refl _ _⟩
  case round =>
    obtain ⟨k, fo, hk, rfl, rfl, HFo, HB⟩ := hrel
    by_cases hlt : k < m2
    · obtain ⟨a, ha⟩ : ∃ a, O[k]? = some a := ⟨_, List.getElem?_eq_getElem (by omega)⟩
      obtain ⟨x0, x1, x2, x3, x4⟩ := (HC.out k a ha).later HB.out
      obtain ⟨w1, hw1⟩ : ∃ w1, w1 = wr.alloc (Obj.cells #[.int .i64 a.1.1, .int .u64 (a.1.2.1 : Int), .int .u64 (a.1.2.2 : Int), .int .i64 a.2.1, .int .i64 a.2.2] 55) := ⟨_, rfl⟩
      have hB1 : Below wr.heap.size wr w1 := by rw [hw1]; exact below1 _ _
      have hct : Cet w1 wr.heap.size 0 a := by rw [hw1]; exact ⟨by simp [go_sem], by simp [go_sem], by simp [go_sem], by simp [go_sem], by simp [go_sem]⟩
      have HCt := hid hct
      have HB1 := hid (below_call HB.out hB1)
      have HA := hid ha
      have hd : decide ((k : Int) < (m2 : Int)) = true := decide_eq_true (by omega)
      have hd2 : (k : Int) < (m2 : Int) := by omega
      clear hB1 hct ha
      go_upto_region 31 with fail
      rw [← hw1]
      clear hw1 x0 x1 x2 x3 x4
      generalize wr.heap.size = bt at *
      refine wk_b4 bt m2 c6 k _ O a w1 (H6.out.later HB1.out) hm hlt HA.out ⟨HCt.out.c0, HCt.out.c1, HCt.out.c2⟩ (fun j b hj hb e => by have := HN.out.one j k b a hb HA.out e; omega) ?_
      intro w2 hb2
      have HB2 := hid (below_call HB1.out hb2)
      obtain ⟨x0, x1, x2, x3, x4⟩ := HCt.out.later hb2
      simp only [Nat.zero_add] at x0 x1 x2 x3 x4
      obtain ⟨y0, y1, y2⟩ := HCx.out.but (S := fun _ => False) (But.of HB2.out) (fun h => h)
      clear hb2
      intros
      by_cases hkk : k = kx
      · have hax : a.1 = x := by
          have := HA.out
          rw [hkk, HAx.out.1] at this
          cases this
          exact HAx.out.2
        have hq : Go.Proofs.YtgihdchgdejkhaaGreatDoor.H.cEq a.1.1 (a.1.2.1 : Int) (a.1.2.2 : Int) x.1 (x.2.1 : Int) (x.2.2 : Int) = true := by rw [hax]; exact cEq_same _ _ _
        have heq := fun W => Go.Proofs.YtgihdchgdejkhaaGreatDoor.H.eqlC a.1.1 (a.1.2.1 : Int) (a.1.2.2 : Int) x.1 (x.2.1 : Int) (x.2.2 : Int) W
        simp only [hq] at heq
        obtain rfl : fo = 0 := by rw [HFo.out, if_neg (by omega)]
        have HFn : Hid ((1 : Int) = if kx < k + 1 then 1 else 0) := by unfold Hid; rw [if_pos (by omega)]
        clear hax hq hkk HFo
        by_cases hk0 : k = 0
        · have ha0 : O[0]? = some a := by rw [← hk0]; exact HA.out
          obtain ⟨p1, p2⟩ := HN.out.fst a ha0
          rw [p2] at x3
          rw [p1] at x4
          have e0 : ((k : Int) == 0) = true := by rw [beq_iff_eq]; omega
          have d0 : decide ((k : Int) > 0) = false := decide_eq_false (by omega)
          have d1 : ¬ 0 < (k : Int) := by omega
          clear hk0 ha0 p1 p2
          go_wp2
          exact ⟨⟨k + 1, _, by omega, by go_num, rfl, HFn, HB2⟩, by simp [intOf]; omega⟩
        · obtain ⟨p, hp, ep, b, hb, g1, g2⟩ := HN.out.nxt k a (by omega) HA.out
          obtain ⟨z0, z1, z2, z3, z4⟩ := (HC.out p b hb).later HB2.out
          obtain ⟨g3, g4⟩ := part_bits g1
          obtain ⟨_, g5⟩ := part_bits g2
          rw [ep] at x4
          have e0 : ((k : Int) == 0) = false := by rw [beq_eq_false_iff_ne]; omega
          have d0 : decide ((k : Int) > 0) = true := decide_eq_true (by omega)
          have d1 : 0 < (k : Int) := by omega
          have d2 : decide ((p : Int) < 0) = false := decide_eq_false (by omega)
          have d3 : ¬ (p : Int) < 0 := by omega
          have d4 : decide ((p : Int) ≥ (k : Int)) = false := decide_eq_false (by omega)
          have d5 : ¬ (k : Int) ≤ (p : Int) := by omega
          have d6 : (p : Int) < (m2 : Int) := by omega
          have d7 : decide (a.2.1 < 1) = false := decide_eq_false (by omega)
          have d8 : ¬ a.2.1 < 1 := by omega
          have e1 : (a.2.1 == a.2.1) = true := by simp
          clear hk0 ep hb g1 g2 g3
          generalize a.2.1 = ra at *
          generalize b.2.1 = rb at *
          go_wp2
          exact ⟨⟨k + 1, _, by omega, by go_num, rfl, HFn, HB2⟩, by simp [intOf]; omega⟩
      · have hax : a.1 ≠ x := fun e => hkk (HN.out.one k kx a ax HA.out HAx.out.1 (by rw [e, HAx.out.2]))
        have hq := cEq_ne hax
        have heq := fun W => Go.Proofs.YtgihdchgdejkhaaGreatDoor.H.eqlC a.1.1 (a.1.2.1 : Int) (a.1.2.2 : Int) x.1 (x.2.1 : Int) (x.2.2 : Int) W
        simp only [hq] at heq
        have HFn : Hid (fo = if kx < k + 1 then 1 else 0) := by
          unfold Hid
          rw [HFo.out]
          by_cases h : kx < k
          · rw [if_pos h, if_pos (by omega)]
          · rw [if_neg h, if_neg (by omega)]
        clear hax hq hkk HFo
        by_cases hk0 : k = 0
        · have ha0 : O[0]? = some a := by rw [← hk0]; exact HA.out
          obtain ⟨p1, p2⟩ := HN.out.fst a ha0
          rw [p2] at x3
          rw [p1] at x4
          have e0 : ((k : Int) == 0) = true := by rw [beq_iff_eq]; omega
          have d0 : decide ((k : Int) > 0) = false := decide_eq_false (by omega)
          have d1 : ¬ 0 < (k : Int) := by omega
          clear hk0 ha0 p1 p2
          go_wp2
          exact ⟨⟨k + 1, _, by omega, by go_num, rfl, HFn, HB2⟩, by simp [intOf]; omega⟩
        · obtain ⟨p, hp, ep, b, hb, g1, g2⟩ := HN.out.nxt k a (by omega) HA.out
          obtain ⟨z0, z1, z2, z3, z4⟩ := (HC.out p b hb).later HB2.out
          obtain ⟨g3, g4⟩ := part_bits g1
          obtain ⟨_, g5⟩ := part_bits g2
          rw [ep] at x4
          have e0 : ((k : Int) == 0) = false := by rw [beq_eq_false_iff_ne]; omega
          have d0 : decide ((k : Int) > 0) = true := decide_eq_true (by omega)
          have d1 : 0 < (k : Int) := by omega
          have d2 : decide ((p : Int) < 0) = false := decide_eq_false (by omega)
          have d3 : ¬ (p : Int) < 0 := by omega
          have d4 : decide ((p : Int) ≥ (k : Int)) = false := decide_eq_false (by omega)
          have d5 : ¬ (k : Int) ≤ (p : Int) := by omega
          have d6 : (p : Int) < (m2 : Int) := by omega
          have d7 : decide (a.2.1 < 1) = false := decide_eq_false (by omega)
          have d8 : ¬ a.2.1 < 1 := by omega
          have e1 : (a.2.1 == a.2.1) = true := by simp
          clear hk0 ep hb g1 g2 g3
          generalize a.2.1 = ra at *
          generalize b.2.1 = rb at *
          go_wp2
          exact ⟨⟨k + 1, _, by omega, by go_num, rfl, HFn, HB2⟩, by simp [intOf]; omega⟩
    · obtain rfl : k = m2 := by omega
      have hd2 : ¬ (k : Int) < (k : Int) := by omega
      obtain rfl : fo = 1 := by rw [HFo.out, if_pos hkx]
      clear HFo
      go_wp2
      exact HK.out _ HB.out ..
end Go.Proofs.YtgihdchgdejkhaaGreatDoor.D
namespace Go.Proofs.YtgihdchgdejkhaaGreatDoor.D
open Go.RowKit
open Go.Proofs.YtgihdchgdejkhaaGreatDoor.H (B64 Cp)
set_option linter.unusedVariables false
set_option linter.unusedSimpArgs false
set_option maxRecDepth 1000000 in
set_option maxHeartbeats 8000000 in
theorem wk_round {u0 u3 u4 u6 u8 u9 u10 u11 u12 u13 u14 u15 u16 u17 u18 u19 u20 u21 u22 u23 u24 u25 u26 u27 u28 u29 u30 u31 u32 u33 u34 u35 u36 u37 u38 u39 u40 u41 u42 u43 u44 u45 u46 u47 u48 u49 u50 u51 u52 u53 u54 u55 u56 u57 u58 u59 u60 u61 u62 u63 u64 u65 u66 u67 u68 u69 u70 u71 u72 u73 u74 u75 u76 u77 u78 u79 u80 u81 u82 u83 u84 u85 u86 u87 u88 u89 u90 u91 u92 u93 u94 u95 u96 u97 u98 u99 u100 u101 u102 u103 u104 u105 u106 u107 u108 u109 u110 u111 u112 u113 u114 u115 u116 u117 u118 u119 u120 u121 u122 u123 u124 u125 u126 u127 u128 u129 u130 u131 u132 u133 u134 u135 u136 u137 u138 u139 u140 u141 u142 u143 u144 u145 u146 u147 u148 u149 u150 u151 u152 u153 u154 u155 u156 u157 u158 u159 u160 u161 u162 u163 u164 u165 u166 u167 u168 u169 u170 u171 u172 u173 u174 u175 u176 u177 u178 u179 u180 u181 u182 u183 u184 u185 u186 u187 u188 u189 u190 u191 u192 u193 u194 u195 u196 u197 u198 u199 u200 u201 u202 u203 u204 u205 u206 u207 u208 u209 u210 u211 u212 u213 u214 u215 u216 u217 u218 u219 u220 u221 u222 u223 u224 u225 u226 u227 u228 u229 u230 u231 u232 u233 u234 u235 u236 u237 u238 u239 u240 u241 u242 u243 u244 u245 u246 u247 u248 u249 u250 u251 u252 u253 u254 u255 u256 u257 u258 u259 u260 u261 u262 u263 u264 u265 u266 u267 u268 u269 u270 u271 u272 u273 u274 u275 u276 u277 u278 u279 u280 u281 u282 u283 u284 u285 u286 u287 u288 u289 u290 u291 u292 u293 u294 u295 u296 u297 u298 u299 u300 u301 u302 u303 u304 u305 u306 u307 u308 u309 u310 u311 u312 u313 u314 u315 u316 u317 u318 u319 u320 u321 u322 u323 u324 : Value} {Qx : Exit → Act → World → Prop} {H : Hd} {s : Sta} {F : Nat → Sp} (v0 : World) (b2 sb pb po n xc i : Nat) (x1 x2 : Int) (w : World) (hI : WI v0 H s w) (hlt : i < n) (hn : n ≤ 9223372036854775807) (hG : ∀ U, But H.Wr v0 U → Tp U sb H.g H.A.g H.qg ∧ (U.cell? ⟨b2, 1, none⟩ = some (.int .i64 x1) ∧ U.cell? ⟨b2, 2, none⟩ = some (.int .i64 x2)) ∧ Ss U (some ⟨pb, po, none⟩) n F) (hE : H.a = x1 ∧ H.e = x2) (hmo : H.mo ≤ 1024) (hSbn : ¬ H.Wr sb) (hSlt : sb < v0.heap.size)
    (hK : ∀ (s' : Sta) (w' : World), WI v0 H s' w' → ∀ (v4 v8 v9 v10 v11 v12 v13 v14 v15 v16 v17 v18 v19 v20 v32 v33 v34 v35 v36 v37 v38 v39 v40 v41 v42 v43 v44 v45 v46 v47 v48 v49 v50 v51 v52 v53 v54 v55 v56 v57 v58 v59 v60 v61 v62 v63 v64 v65 v66 v67 v68 v69 v70 v71 v72 v73 v74 v75 v76 v77 v78 v79 v80 v81 v82 v83 v84 v85 v86 v87 v88 v89 v90 v91 v92 v93 v94 v95 v96 v97 v98 v99 v100 v101 v102 v103 v104 v105 v106 v107 v108 v109 v110 v111 v112 v113 v114 v115 v116 v117 v118 v119 v120 v121 v122 v123 v124 v125 v126 v127 v128 v129 v130 v131 v132 v133 v134 v135 v136 v137 v138 v139 v140 v141 v142 v143 v144 v145 v146 v147 v148 v149 v150 v151 v152 v153 v154 v155 v156 v157 v158 v159 v160 v161 v162 v163 v164 v165 v166 v167 v168 v169 v170 v171 v172 v173 v174 v175 v176 v177 v178 v179 v180 v181 v182 v183 v184 v185 v186 v187 v188 v189 v190 v191 v192 v193 v194 v195 v196 v197 v198 v199 v200 v201 v202 v203 v204 v205 v206 v207 v208 v209 v210 v211 v212 v213 v214 v215 v216 v217 v218 v219 v220 v221 v222 v223 v224 v225 v226 v227 v228 v229 v230 v231 v232 v233 v234 v235 v236 v237 v238 v239 v240 v241 v242 v243 v244 v245 v246 v247 v248 v249 v250 v251 v252 v253 v254 v255 v256 v257 v258 v259 v260 v261 v262 v263 v264 v265 v266 v267 v268 v269 v270 v271 v272 v273 v274 v275 v276 v277 v278 v279 v280 v281 v282 v283 v284 v285 v286 v287 v288 v289 v290 v291 v292 v293 v294 v295 v296 v297 v298 v299 v300 v301 v302 v303 v304 v305 v306 v307 v308 v309 v310 v311 v312 v313 v314 v315 v316 v317 v318 v319 v320 v321 v322 v323 v324 : Value), Qx .normal ⟨List.toArray (u0 :: .slice (some ⟨pb, po, none⟩) n xc :: .pointer (some ⟨b2, 0, none⟩) :: u3 :: v4 :: .pointer (some ⟨sb, 0, none⟩) :: u6 :: .int .i64 ((i : Int) + 1) :: v8 :: v9 :: v10 :: v11 :: v12 :: v13 :: v14 :: v15 :: v16 :: v17 :: v18 :: v19 :: v20 :: u21 :: u22 :: u23 :: u24 :: u25 :: u26 :: u27 :: u28 :: u29 :: u30 :: u31 :: v32 :: v33 :: v34 :: v35 :: v36 :: v37 :: v38 :: v39 :: v40 :: v41 :: v42 :: v43 :: v44 :: v45 :: v46 :: v47 :: v48 :: v49 :: v50 :: v51 :: v52 :: v53 :: v54 :: v55 :: v56 :: v57 :: v58 :: v59 :: v60 :: v61 :: v62 :: v63 :: v64 :: v65 :: v66 :: v67 :: v68 :: v69 :: v70 :: v71 :: v72 :: v73 :: v74 :: v75 :: v76 :: v77 :: v78 :: v79 :: v80 :: v81 :: v82 :: v83 :: v84 :: v85 :: v86 :: v87 :: v88 :: v89 :: v90 :: v91 :: v92 :: v93 :: v94 :: v95 :: v96 :: v97 :: v98 :: v99 :: v100 :: v101 :: v102 :: v103 :: v104 :: v105 :: v106 :: v107 :: v108 :: v109 :: v110 :: v111 :: v112 :: v113 :: v114 :: v115 :: v116 :: v117 :: v118 :: v119 :: v120 :: v121 :: v122 :: v123 :: v124 :: v125 :: v126 :: v127 :: v128 :: v129 :: v130 :: v131 :: v132 :: v133 :: v134 :: v135 :: v136 :: v137 :: v138 :: v139 :: v140 :: v141 :: v142 :: v143 :: v144 :: v145 :: v146 :: v147 :: v148 :: v149 :: v150 :: v151 :: v152 :: v153 :: v154 :: v155 :: v156 :: v157 :: v158 :: v159 :: v160 :: v161 :: v162 :: v163 :: v164 :: v165 :: v166 :: v167 :: v168 :: v169 :: v170 :: v171 :: v172 :: v173 :: v174 :: v175 :: v176 :: v177 :: v178 :: v179 :: v180 :: v181 :: v182 :: v183 :: v184 :: v185 :: v186 :: v187 :: v188 :: v189 :: v190 :: v191 :: v192 :: v193 :: v194 :: v195 :: v196 :: v197 :: v198 :: v199 :: v200 :: v201 :: v202 :: v203 :: v204 :: v205 :: v206 :: v207 :: v208 :: v209 :: v210 :: v211 :: v212 :: v213 :: v214 :: v215 :: v216 :: v217 :: v218 :: v219 :: v220 :: v221 :: v222 :: v223 :: v224 :: v225 :: v226 :: v227 :: v228 :: v229 :: v230 :: v231 :: v232 :: v233 :: v234 :: v235 :: v236 :: v237 :: v238 :: v239 :: v240 :: v241 :: v242 :: v243 :: v244 :: v245 :: v246 :: v247 :: v248 :: v249 :: v250 :: v251 :: v252 :: v253 :: v254 :: v255 :: v256 :: v257 :: v258 :: v259 :: v260 :: v261 :: v262 :: v263 :: v264 :: v265 :: v266 :: v267 :: v268 :: v269 :: v270 :: v271 :: v272 :: v273 :: v274 :: v275 :: v276 :: v277 :: v278 :: v279 :: v280 :: v281 :: v282 :: v283 :: v284 :: v285 :: v286 :: v287 :: v288 :: v289 :: v290 :: v291 :: v292 :: v293 :: v294 :: v295 :: v296 :: v297 :: v298 :: v299 :: v300 :: v301 :: v302 :: v303 :: v304 :: v305 :: v306 :: v307 :: v308 :: v309 :: v310 :: v311 :: v312 :: v313 :: v314 :: v315 :: v316 :: v317 :: v318 :: v319 :: v320 :: v321 :: v322 :: v323 :: v324 :: []), []⟩ w') :
    Code.wp Tryz.prog (pI (pI (pR (pL (rs 5 (Tryz.f4.body.getD .skip)))))) Qx ⟨List.toArray (u0 :: .slice (some ⟨pb, po, none⟩) n xc :: .pointer (some ⟨b2, 0, none⟩) :: u3 :: u4 :: .pointer (some ⟨sb, 0, none⟩) :: u6 :: .int .i64 (i : Int) :: u8 :: u9 :: u10 :: u11 :: u12 :: u13 :: u14 :: u15 :: u16 :: u17 :: u18 :: u19 :: u20 :: u21 :: u22 :: u23 :: u24 :: u25 :: u26 :: u27 :: u28 :: u29 :: u30 :: u31 :: u32 :: u33 :: u34 :: u35 :: u36 :: u37 :: u38 :: u39 :: u40 :: u41 :: u42 :: u43 :: u44 :: u45 :: u46 :: u47 :: u48 :: u49 :: u50 :: u51 :: u52 :: u53 :: u54 :: u55 :: u56 :: u57 :: u58 :: u59 :: u60 :: u61 :: u62 :: u63 :: u64 :: u65 :: u66 :: u67 :: u68 :: u69 :: u70 :: u71 :: u72 :: u73 :: u74 :: u75 :: u76 :: u77 :: u78 :: u79 :: u80 :: u81 :: u82 :: u83 :: u84 :: u85 :: u86 :: u87 :: u88 :: u89 :: u90 :: u91 :: u92 :: u93 :: u94 :: u95 :: u96 :: u97 :: u98 :: u99 :: u100 :: u101 :: u102 :: u103 :: u104 :: u105 :: u106 :: u107 :: u108 :: u109 :: u110 :: u111 :: u112 :: u113 :: u114 :: u115 :: u116 :: u117 :: u118 :: u119 :: u120 :: u121 :: u122 :: u123 :: u124 :: u125 :: u126 :: u127 :: u128 :: u129 :: u130 :: u131 :: u132 :: u133 :: u134 :: u135 :: u136 :: u137 :: u138 :: u139 :: u140 :: u141 :: u142 :: u143 :: u144 :: u145 :: u146 :: u147 :: u148 :: u149 :: u150 :: u151 :: u152 :: u153 :: u154 :: u155 :: u156 :: u157 :: u158 :: u159 :: u160 :: u161 :: u162 :: u163 :: u164 :: u165 :: u166 :: u167 :: u168 :: u169 :: u170 :: u171 :: u172 :: u173 :: u174 :: u175 :: u176 :: u177 :: u178 :: u179 :: u180 :: u181 :: u182 :: u183 :: u184 :: u185 :: u186 :: u187 :: u188 :: u189 :: u190 :: u191 :: u192 :: u193 :: u194 :: u195 :: u196 :: u197 :: u198 :: u199 :: u200 :: u201 :: u202 :: u203 :: u204 :: u205 :: u206 :: u207 :: u208 :: u209 :: u210 :: u211 :: u212 :: u213 :: u214 :: u215 :: u216 :: u217 :: u218 :: u219 :: u220 :: u221 :: u222 :: u223 :: u224 :: u225 :: u226 :: u227 :: u228 :: u229 :: u230 :: u231 :: u232 :: u233 :: u234 :: u235 :: u236 :: u237 :: u238 :: u239 :: u240 :: u241 :: u242 :: u243 :: u244 :: u245 :: u246 :: u247 :: u248 :: u249 :: u250 :: u251 :: u252 :: u253 :: u254 :: u255 :: u256 :: u257 :: u258 :: u259 :: u260 :: u261 :: u262 :: u263 :: u264 :: u265 :: u266 :: u267 :: u268 :: u269 :: u270 :: u271 :: u272 :: u273 :: u274 :: u275 :: u276 :: u277 :: u278 :: u279 :: u280 :: u281 :: u282 :: u283 :: u284 :: u285 :: u286 :: u287 :: u288 :: u289 :: u290 :: u291 :: u292 :: u293 :: u294 :: u295 :: u296 :: u297 :: u298 :: u299 :: u300 :: u301 :: u302 :: u303 :: u304 :: u305 :: u306 :: u307 :: u308 :: u309 :: u310 :: u311 :: u312 :: u313 :: u314 :: u315 :: u316 :: u317 :: u318 :: u319 :: u320 :: u321 :: u322 :: u323 :: u324 :: []), []⟩ w := by
  conv => arg 2; whnf
  have HI := hid hI
  have HG := hid hG
  have HE := hid hE
  have HMo := hid hmo
  have HSbn := hid hSbn
  have HSlt := hid hSlt
  have HK := hid hK
  obtain ⟨_, _, hSs⟩ := hG w hI.but
  obtain ⟨pb', po', epo, hSb⟩ := hSs.at_ (by omega)
  cases epo
  obtain ⟨sp, hsp⟩ : ∃ sp, sp = F i := ⟨_, rfl⟩
  have hsb := hSb i hlt
  have hok := hSs.ok i hlt
  rw [← hsp] at hsb hok
  obtain ⟨y0, y1, y2, y3, y4, y5, y6⟩ := hsb
  have HOk := hid hok
  have hd : decide ((i : Int) < (n : Int)) = true := decide_eq_true (by omega)
  have hd2 : (i : Int) < (n : Int) := by omega
  have gi : IntKind.i64.wrap ((i : Int) + 1) = (i : Int) + 1 := by rw [IntKind.wrap_i64]; omega
  clear hSs hSb hsp hok hI hG hE hmo hSbn hSlt hK
  go_upto_region 11 with fail
  obtain ⟨w1, hw1⟩ : ∃ w1, w1 = w.alloc (Obj.cells #[.int .i64 sp.kd, .int .i64 sp.ob, .int .i64 sp.at_, .int .i64 sp.r, .int .i64 sp.c.1, .int .u64 (sp.c.2.1 : Int), .int .u64 (sp.c.2.2 : Int)] 51) := ⟨_, rfl⟩
  have HB1 : Hid (Below w.heap.size w w1) := by unfold Hid; rw [hw1]; exact below1 _ _
  have HBo : Hid (Bo w1 w.heap.size sp) := by unfold Hid; rw [hw1]; exact ⟨by simp [go_sem], by simp [go_sem], by simp [go_sem], by simp [go_sem]⟩
  have HL1 : Hid (w.heap.size < w1.heap.size) := World.block_lt_of_cell? _ _ HBo.out.c0
  have HT1 := hid (HI.out.tri.later HB1.out)
  have HTp1 : Hid (Tp w1 sb H.g H.A.g H.qg) := (HG.out w HI.out.but).1.later HB1.out
  have HOld : Hid (∀ k, H.All k → k < w.heap.size) := HI.out.tri.old
  have HV0 : Hid (v0.heap.size ≤ w.heap.size) := HI.out.but.size
  obtain ⟨O, hO⟩ : ∃ O, O = ofL H.mo s.X s.l sp.ob := ⟨_, rfl⟩
  have HO := hid hO
  obtain ⟨m, hm⟩ : ∃ m, m = O.length := ⟨_, rfl⟩
  have HMl := hid hm
  rw [← hw1]
  clear hw1 y0 y1 y2 y3 y4 y5 y6 hO hm
  refine wk_11 sp sb w.heap.size m O w1 HT1.out HTp1.out HBo.out HO.out HMl.out ?_
  intro a9 c9 w2 h2
  have HO2 := hid h2.1
  have hb2 := hid h2.2
  clear h2
  intros
  have HT2 := hid (HT1.out.later hb2.out)
  have HTp2 := hid (HTp1.out.later hb2.out)
  go_upto_region 12 with fail
  refine wk_12 (s := s) sb w2 HT2.out HTp2.out ?_
  intro w3 hb
  have hb3 := hid hb
  clear hb
  intros
  go_upto_region 15 with fail
  obtain ⟨w4, hw4⟩ : ∃ w4, w4 = w3.alloc (Obj.cells #[.int .i64 0, .int .u64 0, .int .u64 0] 36) := ⟨_, rfl⟩
  have HB4 : Hid (Below w3.heap.size w3 w4) := by unfold Hid; rw [hw4]; exact below1 _ _
  have HZ4 : Hid (Zc w4 w3.heap.size) := by unfold Hid; rw [hw4]; exact Zc.mk_ _
  rw [← hw4]
  clear hw4
  have HB14 : Hid (Below w1.heap.size w1 w4) := below_call (below_call hb2.out hb3.out) HB4.out
  have HT4 := hid (HT1.out.later HB14.out)
  have HTp4 := hid (HTp1.out.later HB14.out)
  have HBo4 := hid (HBo.out.later HB14.out)
  have HRt4 := hid ((rt_of HO2.out HMl.out.symm).later (below_call hb3.out HB4.out))
  have HBl4 : Hid (∀ k, Blk a9 k → w1.heap.size ≤ k ∧ k < w3.heap.size) := fun k hk => ⟨(HO2.out.blk k hk).1, Nat.lt_of_lt_of_le (HO2.out.blk k hk).2 hb3.out.size⟩
  have HSz3 : Hid (w1.heap.size ≤ w3.heap.size) := (below_call hb2.out hb3.out).size
  have HAll : Hid (∀ k, H.All k → k < w3.heap.size) := fun k hk => by have := HOld.out k hk; have := HL1.out; have := HSz3.out; omega
  have HB04 : Hid (But H.Wr v0 w4) := HI.out.but.trans (But.of (below_call HB1.out HB14.out))
  have HSt : Hid (∀ U, But (fun k => H.Wr k ∨ k = w3.heap.size) w4 U → (U.cell? ⟨sb, 0, none⟩ = some (.pointer (some ⟨H.g, 0, none⟩)) ∧ U.cell? ⟨sb, 1, none⟩ = some (.pointer (some ⟨H.A.g, 0, none⟩)) ∧ U.cell? ⟨sb, 2, none⟩ = some (.pointer (some ⟨H.qg, 0, none⟩)) ∧ Bo U w.heap.size sp) ∧ Rt U a9 m O) := fun U hU => by
    have hn : ∀ k, w.heap.size ≤ k → k < w3.heap.size → ¬ (H.Wr k ∨ k = w3.heap.size) := fun k h1 h2 e => by
      rcases e with e | e
      · have := HOld.out k (Hd.wr_all e); omega
      · omega
    have hl1 := HL1.out
    have hs3 := HSz3.out
    have hsb : ¬ (H.Wr sb ∨ sb = w3.heap.size) := fun e => by
      rcases e with e | e
      · exact HSbn.out e
      · have := HSlt.out; have := HV0.out; omega
    obtain ⟨q0, q1, q2⟩ := HTp4.out.but hU hsb
    exact ⟨⟨q0, q1, q2, HBo4.out.but hU (hn _ (Nat.le_refl _) (by omega))⟩, HRt4.out.but hU (fun k hk => hn k (by have := (HBl4.out k hk).1; omega) (HBl4.out k hk).2)⟩
  obtain ⟨R, hR⟩ : ∃ R, R = stepA H.toPar s sp := ⟨_, rfl⟩
  have HRR := hid hR
  have HFR : Hid (Fit H.toPar R.s) := by unfold Hid; rw [hR]; exact step_fit HI.out.fit sp
  have HCs : Hid ((R.code ≠ 0 ∧ Ref H.toPar s R) ∨ (R.code = 0 ∧ Mad H.toPar s sp.ob R)) := by unfold Hid; rw [hR]; exact step_cases HI.out.fit sp
  have HLo3 : Hid (v0.heap.size ≤ w3.heap.size) := by have := HV0.out; have := HL1.out; have := HSz3.out; show v0.heap.size ≤ w3.heap.size; omega
  clear hR HT1 HT2 HTp1 HTp2 HBo HO2 hb2 hb3 HB4 HB14 HBl4 HTp4 HRt4 HB1
  refine wk_15 sp w.heap.size m c9 a9 w4 HBo4.out ?_
  intro w9 hw9
  obtain rfl := hw9
  intros
  generalize w.heap.size = bo at *
  generalize w3.heap.size = bx at *
  have HSx : Hid (∀ w5, Sw w9 H bx R w5 → (∀ U, Below w5.heap.size w5 U → Tri U H R.s ∧ Tp U sb H.g H.A.g H.qg ∧ Bo U bo sp ∧ Cw U bx R.c ∧ Rt U a9 m O) ∧ But H.Wr v0 w5) := fun w5 hSw => by
    obtain ⟨⟨q0, q1, q2, hb⟩, hrt⟩ := HSt.out w5 hSw.but
    exact ⟨fun U hU => ⟨hSw.tri.later hU, (Tp.mk q0 q1 q2).later hU, hb.later hU, hSw.cw.but (S := fun _ => False) (But.of hU) (fun h => h), hrt.later hU⟩, HB04.out.comp hSw.but (fun k hk => hk.elim .inl (fun e => .inr (by rw [e]; exact HLo3.out)))⟩
  by_cases hC : sp.kd = 0 ∨ m = 0
  · have hdC := decide_eq_true hC
    have HC := hid hC
    clear hC
    go_upto_region 16 with fail
    refine wk_16 sp sb bo bx m c9 a9 O R _ HT4.out HI.out.fit HOk.out HO.out HMl.out HMo.out HRR.out HZ4.out HAll.out HSt.out HC.out ?_
    intro w5 hSw
    obtain ⟨hX, hB5⟩ := HSx.out w5 hSw
    have HX := hid hX
    have HB5 := hid hB5
    clear hSw hX hB5
    intros
    have hcs := HCs.out
    clear HCs
    obtain ⟨N, hN⟩ : ∃ N, N = ofL H.mo R.s.X R.s.l sp.ob := ⟨_, rfl⟩
    have HN := hid hN
    obtain ⟨mn, hmn⟩ : ∃ mn, mn = N.length := ⟨_, rfl⟩
    have HMn := hid hmn
    have HLe : Hid (m ≤ 1024) := by
      have h1 := len_le HI.out.fit sp.ob
      have h2 := HMo.out
      show m ≤ 1024
      rw [HMl.out, HO.out]
      change (ofL H.toPar.mo s.X s.l sp.ob).length ≤ 1024
      change _ ≤ H.mo at h1
      omega
    clear hN hmn
    go_upto_region 18 with fail
    refine wk_18 sp sb bo mn N w5 (HX.out w5 (Below.refl _ _)).1 (HX.out w5 (Below.refl _ _)).2.1 (HX.out w5 (Below.refl _ _)).2.2.1 HN.out HMn.out ?_
    intro a6 c6 w6 h6
    have HO6 := hid h6.1
    have hb6 := hid h6.2
    clear h6
    intros
    have HTk := hid (taken_any _ _ _ _ _ _ (HX.out w6 hb6.out).1.d)
    obtain ⟨t0, t1, t2⟩ := (HX.out w6 hb6.out).2.1
    rcases hcs with ⟨hc0, hRef⟩ | ⟨hc0, hMad⟩
    · have HNO : Hid (N = O) := by unfold Hid; rw [HN.out, HO.out, hRef.X, hRef.l]
      obtain ⟨q, h1, h2, h3, h4, h5⟩ := hRef.t
      have hq9 : q ≤ 9 := by
        by_cases hq : q = 0
        · omega
        · rcases h3 hq with e | e
          · have := (h5 e).2; omega
          · have := h4 e; omega
      have gu : IntKind.i64.wrap ((R.s.t : Int) - (s.t : Int)) = (q : Int) := by rw [IntKind.wrap_i64]; omega
      have HCc : Hid (((q : Int) = 0 ∧ R.code ≠ 11 ∧ R.code ≠ 12) ∨ (R.code = 11 ∧ R.s.t = H.n ∧ 0 ≤ (q : Int) ∧ (q : Int) ≤ 8) ∨ (R.code = 12 ∧ (q : Int) = 9)) := by
        by_cases e1 : R.code = 11
        · exact .inr (.inl ⟨e1, (h5 e1).1, by omega, by have := (h5 e1).2; omega⟩)
        · by_cases e2 : R.code = 12
          · exact .inr (.inr ⟨e2, by have := h4 e2; omega⟩)
          · exact .inl ⟨by by_cases hq : q = 0 <;> first | omega | (rcases h3 hq with e | e <;> contradiction), e1, e2⟩
      have HRc : Hid (R.c = (0, 0, 0)) := hRef.c
      have HL : Hid (s.L.length = R.s.L.length) := by unfold Hid; rw [hRef.L]
      have HWk := hid (HI.out.wk.ref hRef)
      have e0 : (R.code == 0) = false := by rw [beq_eq_false_iff_ne]; exact hc0
      have e1 : (R.code != 0) = true := by rw [bne_iff_ne]; exact hc0
      obtain rfl : mn = m := by rw [HMn.out, HNO.out, ← HMl.out]
      clear hRef h1 h2 h3 h4 h5 hq9
      go_upto_region 21 with (first | (go_at_call 12; refine HTk.out.mono ?_; rintro e wz ⟨rfl, hwz⟩; obtain rfl := hwz.symm; clear hwz))
      refine wk_21 (s := R.s) sb bx mn c9 c6 s.L.length a9 a6 O R.code (q : Int) _ (HX.out _ hb6.out).2.2.2.2 (by have := rt_of HO6.out HMn.out.symm; rw [HNO.out] at this; exact this) HLe.out (HX.out _ hb6.out).1 (HX.out _ hb6.out).2.1 (by have := (HX.out _ hb6.out).2.2.2.1; rw [HRc.out] at this; exact this) HL.out HCc.out ?_
      intro w7 hb
      have HB7 := hid (below_call hb6.out hb)
      have HW : Hid (WI v0 H R.s w7) := ⟨(HX.out _ HB7.out).1, HFR.out, HWk.out, HB5.out.trans (But.of HB7.out)⟩
      clear hb
      intros
      go_wp2
      exact HK.out _ _ HW.out ..
    · have hNm := mad_nums HI.out.fit hMad HFR.out
      obtain ⟨q, h1, h2, h3⟩ := hNm.t1
      have gu : IntKind.i64.wrap ((R.s.t : Int) - (s.t : Int)) = (q : Int) := by rw [IntKind.wrap_i64]; omega
      have HQ : Hid (1 ≤ (q : Int) ∧ (q : Int) ≤ 9) := by unfold Hid; omega
      have HNow : Hid (NowP N R.c) := by unfold Hid; rw [HN.out]; exact now_ok HI.out.fit HI.out.wk hMad HFR.out
      have HWk := hid (HI.out.wk.mad HI.out.fit hMad)
      have HMm : Hid (mn = m + 1) := by unfold Hid; rw [HMn.out, HN.out, HMl.out, HO.out]; exact hNm.len
      obtain ⟨nL2, hnL⟩ : ∃ k, k = R.s.L.length := ⟨_, rfl⟩
      have HnL := hid hnL
      have HnL2 : Hid (nL2 = s.L.length + 1) := by unfold Hid; rw [hnL]; exact hNm.all
      have HCn : Hid (R.s.L.count sp.ob = mn) := by unfold Hid; rw [HMn.out, HN.out]; exact hNm.cnt
      have HRo : Hid (R.c.1 = sp.ob) := hNm.ob
      have hsz := (HX.out w6 hb6.out).1.qu.sz
      have HS1 : Hid ((nL2 : Int) ≤ x1) := by
        have := hsz.len
        rw [HE.out.1, ← hnL] at this
        exact this
      have HS2 : Hid ((mn : Int) ≤ x2) := by
        have h7 := hsz.cnt sp.ob
        rw [HCn.out, HE.out.2] at h7
        exact h7
      have HSL : Hid (s.L.length ≤ 1024) := by
        have g1 := HI.out.fit.len
        have g2 := ok_len HI.out.fit.inv.ok
        have g3 := HMo.out
        show s.L.length ≤ 1024
        change _ ≤ H.mo at g2
        omega
      have e0 : (R.code == 0) = true := by rw [beq_iff_eq]; exact hc0
      have e1 : (R.code != 0) = false := by rw [hc0]; rfl
      clear hMad hNm h1 h2 h3 hnL hsz hc0
      go_upto_region 23 with (first | (go_at_call 12; refine HTk.out.mono ?_; rintro e wz ⟨rfl, hwz⟩; obtain rfl := hwz.symm; clear hwz))
      refine wk_23 (s := R.s) sp b2 sb bo m mn c9 c6 s.L.length nL2 a9 a6 (q : Int) x1 x2 _ (HX.out _ hb6.out).1 (HX.out _ hb6.out).2.1 (HX.out _ hb6.out).2.2.1 HOk.out HQ.out HLe.out HMm.out HnL.out HnL2.out HSL.out HCn.out (HG.out _ (HB5.out.trans (But.of hb6.out))).2.1.1 (HG.out _ (HB5.out.trans (But.of hb6.out))).2.1.2 HS1.out HS2.out ?_
      intro w7 hb
      have HB67 := hid hb
      have HB7 := hid (below_call hb6.out hb)
      clear hb
      intros
      go_upto_region 27 with fail
      refine wk_b2 bx mn c6 a6 N R.c _ ((rt_of HO6.out HMn.out.symm).later HB67.out) (by have := HMm.out; have := HLe.out; omega) HNow.out (HX.out _ HB7.out).2.2.2.1 ?_
      intro w8 hb
      have HB8 := hid (below_call HB7.out hb)
      have HW : Hid (WI v0 H R.s w8) := ⟨(HX.out _ HB8.out).1, HFR.out, HWk.out, HB5.out.trans (But.of HB8.out)⟩
      clear hb
      intros
      have z0 := (HX.out _ HB8.out).2.2.2.1.c0
      rw [HRo.out] at z0
      have z1 := (HX.out _ HB8.out).2.2.1.c1
      have e9 : (sp.ob == sp.ob) = true := by simp
      go_wp2
      exact HK.out _ _ HW.out ..
  · have hdC := decide_eq_false hC
    have HC := hid hC
    clear hC
    go_upto_region 17 with fail
    refine wk_17 sp sb bo bx m c9 a9 O R _ HT4.out HI.out.fit HOk.out HO.out HMl.out HMo.out HRR.out HZ4.out HAll.out HSt.out HC.out ?_
    intro w5 hSw
    obtain ⟨hX, hB5⟩ := HSx.out w5 hSw
    have HX := hid hX
    have HB5 := hid hB5
    clear hSw hX hB5
    intros
    have hcs := HCs.out
    clear HCs
    obtain ⟨N, hN⟩ : ∃ N, N = ofL H.mo R.s.X R.s.l sp.ob := ⟨_, rfl⟩
    have HN := hid hN
    obtain ⟨mn, hmn⟩ : ∃ mn, mn = N.length := ⟨_, rfl⟩
    have HMn := hid hmn
    have HLe : Hid (m ≤ 1024) := by
      have h1 := len_le HI.out.fit sp.ob
      have h2 := HMo.out
      show m ≤ 1024
      rw [HMl.out, HO.out]
      change (ofL H.toPar.mo s.X s.l sp.ob).length ≤ 1024
      change _ ≤ H.mo at h1
      omega
    clear hN hmn
    go_upto_region 18 with fail
    refine wk_18 sp sb bo mn N w5 (HX.out w5 (Below.refl _ _)).1 (HX.out w5 (Below.refl _ _)).2.1 (HX.out w5 (Below.refl _ _)).2.2.1 HN.out HMn.out ?_
    intro a6 c6 w6 h6
    have HO6 := hid h6.1
    have hb6 := hid h6.2
    clear h6
    intros
    have HTk := hid (taken_any _ _ _ _ _ _ (HX.out w6 hb6.out).1.d)
    obtain ⟨t0, t1, t2⟩ := (HX.out w6 hb6.out).2.1
    rcases hcs with ⟨hc0, hRef⟩ | ⟨hc0, hMad⟩
    · have HNO : Hid (N = O) := by unfold Hid; rw [HN.out, HO.out, hRef.X, hRef.l]
      obtain ⟨q, h1, h2, h3, h4, h5⟩ := hRef.t
      have hq9 : q ≤ 9 := by
        by_cases hq : q = 0
        · omega
        · rcases h3 hq with e | e
          · have := (h5 e).2; omega
          · have := h4 e; omega
      have gu : IntKind.i64.wrap ((R.s.t : Int) - (s.t : Int)) = (q : Int) := by rw [IntKind.wrap_i64]; omega
      have HCc : Hid (((q : Int) = 0 ∧ R.code ≠ 11 ∧ R.code ≠ 12) ∨ (R.code = 11 ∧ R.s.t = H.n ∧ 0 ≤ (q : Int) ∧ (q : Int) ≤ 8) ∨ (R.code = 12 ∧ (q : Int) = 9)) := by
        by_cases e1 : R.code = 11
        · exact .inr (.inl ⟨e1, (h5 e1).1, by omega, by have := (h5 e1).2; omega⟩)
        · by_cases e2 : R.code = 12
          · exact .inr (.inr ⟨e2, by have := h4 e2; omega⟩)
          · exact .inl ⟨by by_cases hq : q = 0 <;> first | omega | (rcases h3 hq with e | e <;> contradiction), e1, e2⟩
      have HRc : Hid (R.c = (0, 0, 0)) := hRef.c
      have HL : Hid (s.L.length = R.s.L.length) := by unfold Hid; rw [hRef.L]
      have HWk := hid (HI.out.wk.ref hRef)
      have e0 : (R.code == 0) = false := by rw [beq_eq_false_iff_ne]; exact hc0
      have e1 : (R.code != 0) = true := by rw [bne_iff_ne]; exact hc0
      obtain rfl : mn = m := by rw [HMn.out, HNO.out, ← HMl.out]
      clear hRef h1 h2 h3 h4 h5 hq9
      go_upto_region 21 with (first | (go_at_call 12; refine HTk.out.mono ?_; rintro e wz ⟨rfl, hwz⟩; obtain rfl := hwz.symm; clear hwz))
      refine wk_21 (s := R.s) sb bx mn c9 c6 s.L.length a9 a6 O R.code (q : Int) _ (HX.out _ hb6.out).2.2.2.2 (by have := rt_of HO6.out HMn.out.symm; rw [HNO.out] at this; exact this) HLe.out (HX.out _ hb6.out).1 (HX.out _ hb6.out).2.1 (by have := (HX.out _ hb6.out).2.2.2.1; rw [HRc.out] at this; exact this) HL.out HCc.out ?_
      intro w7 hb
      have HB7 := hid (below_call hb6.out hb)
      have HW : Hid (WI v0 H R.s w7) := ⟨(HX.out _ HB7.out).1, HFR.out, HWk.out, HB5.out.trans (But.of HB7.out)⟩
      clear hb
      intros
      go_wp2
      exact HK.out _ _ HW.out ..
    · have hNm := mad_nums HI.out.fit hMad HFR.out
      obtain ⟨q, h1, h2, h3⟩ := hNm.t1
      have gu : IntKind.i64.wrap ((R.s.t : Int) - (s.t : Int)) = (q : Int) := by rw [IntKind.wrap_i64]; omega
      have HQ : Hid (1 ≤ (q : Int) ∧ (q : Int) ≤ 9) := by unfold Hid; omega
      have HNow : Hid (NowP N R.c) := by unfold Hid; rw [HN.out]; exact now_ok HI.out.fit HI.out.wk hMad HFR.out
      have HWk := hid (HI.out.wk.mad HI.out.fit hMad)
      have HMm : Hid (mn = m + 1) := by unfold Hid; rw [HMn.out, HN.out, HMl.out, HO.out]; exact hNm.len
      obtain ⟨nL2, hnL⟩ : ∃ k, k = R.s.L.length := ⟨_, rfl⟩
      have HnL := hid hnL
      have HnL2 : Hid (nL2 = s.L.length + 1) := by unfold Hid; rw [hnL]; exact hNm.all
      have HCn : Hid (R.s.L.count sp.ob = mn) := by unfold Hid; rw [HMn.out, HN.out]; exact hNm.cnt
      have HRo : Hid (R.c.1 = sp.ob) := hNm.ob
      have hsz := (HX.out w6 hb6.out).1.qu.sz
      have HS1 : Hid ((nL2 : Int) ≤ x1) := by
        have := hsz.len
        rw [HE.out.1, ← hnL] at this
        exact this
      have HS2 : Hid ((mn : Int) ≤ x2) := by
        have h7 := hsz.cnt sp.ob
        rw [HCn.out, HE.out.2] at h7
        exact h7
      have HSL : Hid (s.L.length ≤ 1024) := by
        have g1 := HI.out.fit.len
        have g2 := ok_len HI.out.fit.inv.ok
        have g3 := HMo.out
        show s.L.length ≤ 1024
        change _ ≤ H.mo at g2
        omega
      have e0 : (R.code == 0) = true := by rw [beq_iff_eq]; exact hc0
      have e1 : (R.code != 0) = false := by rw [hc0]; rfl
      clear hMad hNm h1 h2 h3 hnL hsz hc0
      go_upto_region 23 with (first | (go_at_call 12; refine HTk.out.mono ?_; rintro e wz ⟨rfl, hwz⟩; obtain rfl := hwz.symm; clear hwz))
      refine wk_23 (s := R.s) sp b2 sb bo m mn c9 c6 s.L.length nL2 a9 a6 (q : Int) x1 x2 _ (HX.out _ hb6.out).1 (HX.out _ hb6.out).2.1 (HX.out _ hb6.out).2.2.1 HOk.out HQ.out HLe.out HMm.out HnL.out HnL2.out HSL.out HCn.out (HG.out _ (HB5.out.trans (But.of hb6.out))).2.1.1 (HG.out _ (HB5.out.trans (But.of hb6.out))).2.1.2 HS1.out HS2.out ?_
      intro w7 hb
      have HB67 := hid hb
      have HB7 := hid (below_call hb6.out hb)
      clear hb
      intros
      go_upto_region 27 with fail
      refine wk_b2 bx mn c6 a6 N R.c _ ((rt_of HO6.out HMn.out.symm).later HB67.out) (by have := HMm.out; have := HLe.out; omega) HNow.out (HX.out _ HB7.out).2.2.2.1 ?_
      intro w8 hb
      have HB8 := hid (below_call HB7.out hb)
      have HW : Hid (WI v0 H R.s w8) := ⟨(HX.out _ HB8.out).1, HFR.out, HWk.out, HB5.out.trans (But.of HB8.out)⟩
      clear hb
      intros
      have z0 := (HX.out _ HB8.out).2.2.2.1.c0
      rw [HRo.out] at z0
      have z1 := (HX.out _ HB8.out).2.2.1.c1
      have e9 : (sp.ob == sp.ob) = true := by simp
      go_wp2
      exact HK.out _ _ HW.out ..
end Go.Proofs.YtgihdchgdejkhaaGreatDoor.D
