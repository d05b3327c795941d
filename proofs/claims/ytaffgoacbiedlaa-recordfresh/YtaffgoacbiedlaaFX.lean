import Derived.Test.YtaffgoacbiedlaaGZ
import Derived.Test.YtaffgoacbiedlaaK4
import Derived.Test.YtaffgoacbiedlaaR8
import Derived.Test.YtaffgoacbiedlaaT1
import Derived.Test.YtaffgoacbiedlaaQ1
import Derived.Test.YtaffgoacbiedlaaY3
import Derived.Test.YtaffgoacbiedlaaS4
import Derived.Test.YtaffgoacbiedlaaS2
namespace Go.Proofs.Ytaffgoacbiedlaa
open Go.RowKit
set_option linter.unusedVariables false
set_option linter.unusedSimpArgs false
/-- Pieces of a text, by their places. -/
def rs : Nat → Code → Code
  | 0, c => c
  | n + 1, .seq _ b => rs n b
  | _ + 1, c => c
/-- The bytes, written over up to v. -/
def V1 (w W : World) (ra : Option Addr) (rc : Nat) (o : Cl) (t : Value) (W' : World) : Prop :=
  ∃ (v : Nat) (D : List Nat), v ≤ o.data.length ∧ t = .int .i64 (v : Int) ∧ D.length = o.data.length ∧ (∀ i, v ≤ i → D[i]? = o.data[i]?) ∧ (0 < v → D[0]? ≠ o.data[0]?) ∧ Own W' w.heap.size ra (o.data.length + 4) rc (D ++ [1, 2, 3, 4]) ∧ But (Blk ra) W W'
def V2 (w W : World) (ga : Option Addr) (gc : Nat) (p : Cl) (t : Value) (W' : World) : Prop :=
  ∃ (v : Nat) (G : List Int), v ≤ p.gifts.length ∧ t = .int .i64 (v : Int) ∧ G.length = p.gifts.length ∧ (∀ i, v ≤ i → G[i]? = p.gifts[i]?) ∧ (0 < v → G[0]? ≠ p.gifts[0]?) ∧ (∀ g ∈ G, 0 ≤ g ∧ g ≤ 65535) ∧ OI W' w.heap.size ga (p.gifts.length + 3) gc (G ++ [901, 902, 903]) ∧ But (Blk ga) W W'
theorem ly_ne {o o2 : Cl} (h : fm o = true) (h2 : fm o2 = true) (a : o.hi < 18446744073709551616 ∧ o.lo < 18446744073709551616) (b : o2.hi < 18446744073709551616 ∧ o2.lo < 18446744073709551616) (hne : o ≠ o2) : ly o ≠ ly o2 := fun e => by
  have h1 := ps_lay h a.1 a.2
  rw [e, ps_lay h2 b.1 b.2] at h1
  exact hne (Option.some.inj h1).symm
theorem str_ne {L M : List Nat} (hL : ∀ x ∈ L, x < 256) (hM : ∀ x ∈ M, x < 256) (h : L ≠ M) : (!((strB L).toList == (strB M).toList)) = true := by
  have : (strB L).toList ≠ (strB M).toList := fun e => h (strB_inj hL hM (by
    rw [ByteArray.toList_eq, ByteArray.toList_eq] at e
    exact ByteArray.ext (Array.ext' e)))
  simpa using this
theorem V1.next {w W : World} {g rc : Nat} {o : Cl} {wr : World} {v : Nat} {D : List Nat} {x y : Nat} (hx : D[v]? = some x) (hy : (x + 1) % 256 = y) (hlt : v < o.data.length) (hl : D.length = o.data.length) (ht : ∀ i, v ≤ i → D[i]? = o.data[i]?) (h0 : 0 < v → D[0]? ≠ o.data[0]?) (ho : Own wr w.heap.size (some ⟨g, 0, none⟩) (o.data.length + 4) rc (D ++ [1, 2, 3, 4])) (hb : But (Blk (some ⟨g, 0, none⟩)) W wr) (t : Value) (hte : t = .int .i64 ((v + 1 : Nat) : Int)) :
    V1 w W (some ⟨g, 0, none⟩) rc o t (wr.setCell ⟨g, v, none⟩ (.int .u8 (y : Int))) := by
  have hxx : x < 256 := ho.small x (List.mem_append_left _ (List.mem_of_getElem? hx))
  refine ⟨v + 1, D.set v y, hlt, hte, by rw [List.length_set]; exact hl, fun i hi => ?_, fun _ => ?_, ?_, hb.setCell (p := ⟨g, v, none⟩) ⟨_, rfl, rfl⟩ _⟩
  · rw [List.getElem?_set_ne (by omega)]
    exact ht i (by omega)
  · rcases Nat.eq_zero_or_pos v with rfl | hv
    · rw [List.getElem?_set_self (by omega), ← ht 0 (Nat.le_refl _), hx]
      intro e
      have := Option.some.inj e
      omega
    · rw [List.getElem?_set_ne (by omega)]
      exact h0 hv
  · have := ho.put9 v y (by omega)
    rwa [List.set_append_left _ _ (by omega)] at this
theorem V2.next {w W : World} {g gc : Nat} {p : Cl} {wr : World} {v : Nat} {G : List Int} {x y : Int} (hx : G[v]? = some x) (hy : 65535 - x = y) (hlt : v < p.gifts.length) (hl : G.length = p.gifts.length) (ht : ∀ i, v ≤ i → G[i]? = p.gifts[i]?) (h0 : 0 < v → G[0]? ≠ p.gifts[0]?) (hG : ∀ g ∈ G, 0 ≤ g ∧ g ≤ 65535) (ho : OI wr w.heap.size (some ⟨g, 0, none⟩) (p.gifts.length + 3) gc (G ++ [901, 902, 903])) (hb : But (Blk (some ⟨g, 0, none⟩)) W wr) (t : Value) (hte : t = .int .i64 ((v + 1 : Nat) : Int)) :
    V2 w W (some ⟨g, 0, none⟩) gc p t (wr.setCell ⟨g, v, none⟩ (.int .i64 y)) := by
  have hxx := hG x (List.mem_of_getElem? hx)
  refine ⟨v + 1, G.set v y, hlt, hte, by rw [List.length_set]; exact hl, fun i hi => ?_, fun _ => ?_, fun z hz => ?_, ?_, hb.setCell (p := ⟨g, v, none⟩) ⟨_, rfl, rfl⟩ _⟩
  · rw [List.getElem?_set_ne (by omega)]
    exact ht i (by omega)
  · rcases Nat.eq_zero_or_pos v with rfl | hv
    · rw [List.getElem?_set_self (by omega), ← ht 0 (Nat.le_refl _), hx]
      intro e
      have := Option.some.inj e
      omega
    · rw [List.getElem?_set_ne (by omega)]
      exact h0 hv
  · rcases List.mem_or_eq_of_mem_set hz with h1 | h1
    · exact hG z h1
    · omega
  · have := ho.put9 v y
    rwa [List.set_append_left _ _ (by omega)] at this
set_option maxRecDepth 1000000 in
set_option maxHeartbeats 8000000 in
theorem fr_end {u0 u1 u2 u3 u4 u12 u13 u14 u16 u19 u20 u22 u23 u24 u26 u27 u28 u29 u31 u33 u34 u35 u36 u37 u38 u39 u40 u41 u42 u43 u44 u45 u46 u47 u48 u49 u50 u51 u52 u53 u54 u55 u56 u57 u58 u59 u60 u61 u62 u63 u64 u65 u66 u67 u68 u69 u70 u71 u72 u73 u74 u75 u76 u77 u78 u79 u80 u81 u82 u83 u84 u85 u86 u87 u88 u89 u90 u91 u92 u93 u94 u95 u96 u97 u98 u99 u100 u101 u102 u103 u104 u105 u106 u107 u108 u109 u110 u111 u112 u113 u114 u115 u116 u117 u118 u119 u120 u121 u122 u123 u124 u125 u126 u127 u128 u129 u130 u131 u132 u133 u134 u135 u136 u137 u138 u139 u140 u141 u142 u143 u144 u145 u146 u147 u148 u149 u150 u151 u152 u153 u154 u155 u156 u157 u158 u159 u160 u161 u162 u163 u164 u165 u166 u167 u168 u169 u170 u171 u172 u173 u174 u175 u176 u177 u178 u179 u180 u181 u182 u183 u184 u185 u186 u187 u188 u189 u190 u191 u192 u193 u194 u195 u196 u197 u198 u199 u200 u201 u202 u203 u204 u205 u206 u207 u208 u209 u210 u211 u212 u213 u214 u215 u216 u217 u218 u219 u220 u221 u222 u223 u224 u225 u226 u227 u228 u229 u230 u231 u232 u233 u234 u235 u236 u237 u238 u239 u240 u241 u242 u243 u244 u245 u246 u247 u248 u249 u250 u251 u252 u253 u254 u255 u256 u257 u258 u259 u260 u261 u262 u263 u264 u265 u266 u267 u268 u269 u270 u271 u272 u273 u274 u275 u276 u277 u278 u279 u280 u281 u282 u283 u284 u285 u286 u287 u288 u289 u290 u291 u292 u293 u294 u295 u296 u297 u298 u299 u300 u301 u302 u303 u304 u305 u306 u307 u308 u309 u310 u311 u312 u313 u314 u315 u316 u317 u318 u319 u320 u321 u322 u323 u324 u325 u326 u327 u328 u329 u330 u331 u332 u333 u334 u335 u336 u337 u338 u339 u340 u341 u342 u343 u344 u345 u346 u347 u348 u349 u350 u351 u352 u353 u354 u355 u356 u357 u358 u359 u360 u361 u362 u363 u364 u365 u366 u367 u368 u369 u370 u371 u372 u373 u374 u375 u376 u377 u378 u379 u380 u381 u382 u383 u384 u385 u386 u387 u388 u389 u390 u391 u392 u393 u394 u395 u396 u397 u398 u399 u400 u401 u402 u403 u404 u405 u406 u407 u408 u409 u410 u411 u412 u413 u414 u415 u416 u417 u418 u419 u420 : Value} {Qx : Exit → Act → World → Prop} {w W : World} {r bo bp nn mm : Nat} {Mo Mp : List Value} {o p : Cl} {ra : Option Addr} {rc : Nat} {ga : Option Addr} {gc : Nat} (hba : Ba w W r bo bp Mo Mp o p ra rc ga gc) (hnn : o.data.length = nn) (hmm : p.gifts.length = mm) (b21 b25 : Nat) (L21 L25 : List Value) (h21 : Bx W b21 L21) (h25 : Bx W b25 L25) (l21 : L21.length = 13) (l25 : L25.length = 13) (hb2 : r ≤ b21 ∧ b21 < b25) (S1 S2 S3 : ByteArray) (a11 a15 a30 : Option Addr) (n11 c11 n15 c15 n30 c30 : Nat) (h11 : Row W a11 n11 c11 (ly o)) (h15 : Row W a15 n15 c15 (ly p)) (h30 : Row W a30 n30 c30 (rly 5 (rpO o))) (hS3 : S3 = strB (rly 5 (rpO o))) (hS1 : S1 = strB (ly o)) (hS2 : S2 = strB (ly p)) (hsm : (∀ x ∈ ly o, x < 256) ∧ (∀ x ∈ ly p, x < 256))
    (hK : ∀ (w' : World), Below w.heap.size w w' → ∀ (v11 v15 v35 v36 v331 v332 v333 v334 v335 v336 v337 v338 v339 v340 v341 v342 v343 v344 v345 v346 v347 v348 v349 v350 v351 v352 v353 v354 v355 v356 v357 v358 v359 v360 v361 v362 v363 v364 v365 v366 v367 v368 v369 v370 v371 v372 v373 v374 v375 v376 v377 v378 v379 v380 v381 v382 v383 v384 v385 v386 v387 v388 v389 v390 v391 v392 v393 v394 v395 v396 v397 v398 v399 v400 v401 v402 v403 v404 v405 v406 v407 v408 v409 v410 v411 v412 v413 v414 v415 v416 v417 v418 v419 v420 : Value), Qx .ret ⟨List.toArray (u0 :: u1 :: u2 :: u3 :: .bool true :: .pointer (some ⟨bo, 0, none⟩) :: .pointer (some ⟨bp, 0, none⟩) :: .slice ra (nn + 4) rc :: .slice ga (mm + 3) gc :: .int .i64 (nn : Int) :: .int .i64 (mm : Int) :: v11 :: u12 :: u13 :: u14 :: v15 :: u16 :: .string S1 :: .string S2 :: u19 :: u20 :: .pointer (some ⟨b21, 0, none⟩) :: u22 :: u23 :: u24 :: .pointer (some ⟨b25, 0, none⟩) :: u26 :: u27 :: u28 :: u29 :: .slice a30 n30 c30 :: u31 :: .string S3 :: u33 :: u34 :: v35 :: v36 :: u37 :: u38 :: u39 :: u40 :: u41 :: u42 :: u43 :: u44 :: u45 :: u46 :: u47 :: u48 :: u49 :: u50 :: u51 :: u52 :: u53 :: u54 :: u55 :: u56 :: u57 :: u58 :: u59 :: u60 :: u61 :: u62 :: u63 :: u64 :: u65 :: u66 :: u67 :: u68 :: u69 :: u70 :: u71 :: u72 :: u73 :: u74 :: u75 :: u76 :: u77 :: u78 :: u79 :: u80 :: u81 :: u82 :: u83 :: u84 :: u85 :: u86 :: u87 :: u88 :: u89 :: u90 :: u91 :: u92 :: u93 :: u94 :: u95 :: u96 :: u97 :: u98 :: u99 :: u100 :: u101 :: u102 :: u103 :: u104 :: u105 :: u106 :: u107 :: u108 :: u109 :: u110 :: u111 :: u112 :: u113 :: u114 :: u115 :: u116 :: u117 :: u118 :: u119 :: u120 :: u121 :: u122 :: u123 :: u124 :: u125 :: u126 :: u127 :: u128 :: u129 :: u130 :: u131 :: u132 :: u133 :: u134 :: u135 :: u136 :: u137 :: u138 :: u139 :: u140 :: u141 :: u142 :: u143 :: u144 :: u145 :: u146 :: u147 :: u148 :: u149 :: u150 :: u151 :: u152 :: u153 :: u154 :: u155 :: u156 :: u157 :: u158 :: u159 :: u160 :: u161 :: u162 :: u163 :: u164 :: u165 :: u166 :: u167 :: u168 :: u169 :: u170 :: u171 :: u172 :: u173 :: u174 :: u175 :: u176 :: u177 :: u178 :: u179 :: u180 :: u181 :: u182 :: u183 :: u184 :: u185 :: u186 :: u187 :: u188 :: u189 :: u190 :: u191 :: u192 :: u193 :: u194 :: u195 :: u196 :: u197 :: u198 :: u199 :: u200 :: u201 :: u202 :: u203 :: u204 :: u205 :: u206 :: u207 :: u208 :: u209 :: u210 :: u211 :: u212 :: u213 :: u214 :: u215 :: u216 :: u217 :: u218 :: u219 :: u220 :: u221 :: u222 :: u223 :: u224 :: u225 :: u226 :: u227 :: u228 :: u229 :: u230 :: u231 :: u232 :: u233 :: u234 :: u235 :: u236 :: u237 :: u238 :: u239 :: u240 :: u241 :: u242 :: u243 :: u244 :: u245 :: u246 :: u247 :: u248 :: u249 :: u250 :: u251 :: u252 :: u253 :: u254 :: u255 :: u256 :: u257 :: u258 :: u259 :: u260 :: u261 :: u262 :: u263 :: u264 :: u265 :: u266 :: u267 :: u268 :: u269 :: u270 :: u271 :: u272 :: u273 :: u274 :: u275 :: u276 :: u277 :: u278 :: u279 :: u280 :: u281 :: u282 :: u283 :: u284 :: u285 :: u286 :: u287 :: u288 :: u289 :: u290 :: u291 :: u292 :: u293 :: u294 :: u295 :: u296 :: u297 :: u298 :: u299 :: u300 :: u301 :: u302 :: u303 :: u304 :: u305 :: u306 :: u307 :: u308 :: u309 :: u310 :: u311 :: u312 :: u313 :: u314 :: u315 :: u316 :: u317 :: u318 :: u319 :: u320 :: u321 :: u322 :: u323 :: u324 :: u325 :: u326 :: u327 :: u328 :: u329 :: u330 :: v331 :: v332 :: v333 :: v334 :: v335 :: v336 :: v337 :: v338 :: v339 :: v340 :: v341 :: v342 :: v343 :: v344 :: v345 :: v346 :: v347 :: v348 :: v349 :: v350 :: v351 :: v352 :: v353 :: v354 :: v355 :: v356 :: v357 :: v358 :: v359 :: v360 :: v361 :: v362 :: v363 :: v364 :: v365 :: v366 :: v367 :: v368 :: v369 :: v370 :: v371 :: v372 :: v373 :: v374 :: v375 :: v376 :: v377 :: v378 :: v379 :: v380 :: v381 :: v382 :: v383 :: v384 :: v385 :: v386 :: v387 :: v388 :: v389 :: v390 :: v391 :: v392 :: v393 :: v394 :: v395 :: v396 :: v397 :: v398 :: v399 :: v400 :: v401 :: v402 :: v403 :: v404 :: v405 :: v406 :: v407 :: v408 :: v409 :: v410 :: v411 :: v412 :: v413 :: v414 :: v415 :: v416 :: v417 :: v418 :: v419 :: v420 :: []), []⟩ w') :
    Code.wp Try.prog (rs 32 (Try.f5.body.getD .skip)) Qx ⟨List.toArray (u0 :: u1 :: u2 :: u3 :: u4 :: .pointer (some ⟨bo, 0, none⟩) :: .pointer (some ⟨bp, 0, none⟩) :: .slice ra (nn + 4) rc :: .slice ga (mm + 3) gc :: .int .i64 (nn : Int) :: .int .i64 (mm : Int) :: .slice a11 n11 c11 :: u12 :: u13 :: u14 :: .slice a15 n15 c15 :: u16 :: .string S1 :: .string S2 :: u19 :: u20 :: .pointer (some ⟨b21, 0, none⟩) :: u22 :: u23 :: u24 :: .pointer (some ⟨b25, 0, none⟩) :: u26 :: u27 :: u28 :: u29 :: .slice a30 n30 c30 :: u31 :: .string S3 :: u33 :: u34 :: u35 :: u36 :: u37 :: u38 :: u39 :: u40 :: u41 :: u42 :: u43 :: u44 :: u45 :: u46 :: u47 :: u48 :: u49 :: u50 :: u51 :: u52 :: u53 :: u54 :: u55 :: u56 :: u57 :: u58 :: u59 :: u60 :: u61 :: u62 :: u63 :: u64 :: u65 :: u66 :: u67 :: u68 :: u69 :: u70 :: u71 :: u72 :: u73 :: u74 :: u75 :: u76 :: u77 :: u78 :: u79 :: u80 :: u81 :: u82 :: u83 :: u84 :: u85 :: u86 :: u87 :: u88 :: u89 :: u90 :: u91 :: u92 :: u93 :: u94 :: u95 :: u96 :: u97 :: u98 :: u99 :: u100 :: u101 :: u102 :: u103 :: u104 :: u105 :: u106 :: u107 :: u108 :: u109 :: u110 :: u111 :: u112 :: u113 :: u114 :: u115 :: u116 :: u117 :: u118 :: u119 :: u120 :: u121 :: u122 :: u123 :: u124 :: u125 :: u126 :: u127 :: u128 :: u129 :: u130 :: u131 :: u132 :: u133 :: u134 :: u135 :: u136 :: u137 :: u138 :: u139 :: u140 :: u141 :: u142 :: u143 :: u144 :: u145 :: u146 :: u147 :: u148 :: u149 :: u150 :: u151 :: u152 :: u153 :: u154 :: u155 :: u156 :: u157 :: u158 :: u159 :: u160 :: u161 :: u162 :: u163 :: u164 :: u165 :: u166 :: u167 :: u168 :: u169 :: u170 :: u171 :: u172 :: u173 :: u174 :: u175 :: u176 :: u177 :: u178 :: u179 :: u180 :: u181 :: u182 :: u183 :: u184 :: u185 :: u186 :: u187 :: u188 :: u189 :: u190 :: u191 :: u192 :: u193 :: u194 :: u195 :: u196 :: u197 :: u198 :: u199 :: u200 :: u201 :: u202 :: u203 :: u204 :: u205 :: u206 :: u207 :: u208 :: u209 :: u210 :: u211 :: u212 :: u213 :: u214 :: u215 :: u216 :: u217 :: u218 :: u219 :: u220 :: u221 :: u222 :: u223 :: u224 :: u225 :: u226 :: u227 :: u228 :: u229 :: u230 :: u231 :: u232 :: u233 :: u234 :: u235 :: u236 :: u237 :: u238 :: u239 :: u240 :: u241 :: u242 :: u243 :: u244 :: u245 :: u246 :: u247 :: u248 :: u249 :: u250 :: u251 :: u252 :: u253 :: u254 :: u255 :: u256 :: u257 :: u258 :: u259 :: u260 :: u261 :: u262 :: u263 :: u264 :: u265 :: u266 :: u267 :: u268 :: u269 :: u270 :: u271 :: u272 :: u273 :: u274 :: u275 :: u276 :: u277 :: u278 :: u279 :: u280 :: u281 :: u282 :: u283 :: u284 :: u285 :: u286 :: u287 :: u288 :: u289 :: u290 :: u291 :: u292 :: u293 :: u294 :: u295 :: u296 :: u297 :: u298 :: u299 :: u300 :: u301 :: u302 :: u303 :: u304 :: u305 :: u306 :: u307 :: u308 :: u309 :: u310 :: u311 :: u312 :: u313 :: u314 :: u315 :: u316 :: u317 :: u318 :: u319 :: u320 :: u321 :: u322 :: u323 :: u324 :: u325 :: u326 :: u327 :: u328 :: u329 :: u330 :: u331 :: u332 :: u333 :: u334 :: u335 :: u336 :: u337 :: u338 :: u339 :: u340 :: u341 :: u342 :: u343 :: u344 :: u345 :: u346 :: u347 :: u348 :: u349 :: u350 :: u351 :: u352 :: u353 :: u354 :: u355 :: u356 :: u357 :: u358 :: u359 :: u360 :: u361 :: u362 :: u363 :: u364 :: u365 :: u366 :: u367 :: u368 :: u369 :: u370 :: u371 :: u372 :: u373 :: u374 :: u375 :: u376 :: u377 :: u378 :: u379 :: u380 :: u381 :: u382 :: u383 :: u384 :: u385 :: u386 :: u387 :: u388 :: u389 :: u390 :: u391 :: u392 :: u393 :: u394 :: u395 :: u396 :: u397 :: u398 :: u399 :: u400 :: u401 :: u402 :: u403 :: u404 :: u405 :: u406 :: u407 :: u408 :: u409 :: u410 :: u411 :: u412 :: u413 :: u414 :: u415 :: u416 :: u417 :: u418 :: u419 :: u420 :: []), []⟩ W := by
  conv => arg 2; whnf
  have HK := hid hK
  have HBA := hid hba
  have HH := hid (And.intro h21 h25)
  have HR2 := hid hb2
  have HS1 := hid hS1
  have HSM := hid hsm
  have HS2 := hid hS2
  have HNN := hid hnn
  have HMM := hid hmm
  have hn1 : nn ≤ 1025 := by rw [← hnn]; exact fm_data hba.fo
  have hm1 : mm ≤ 255 := by rw [← hmm]; exact fm_gifts hba.fp
  obtain ⟨g7, rfl⟩ := hba.ra_
  obtain ⟨g8, rfl⟩ := hba.ga_
  have HL2 := hid (And.intro l21 l25)
  clear hsm hK hba h21 h25 l21 l25 hb2 hS1 hS2 hnn hmm
  have cv1 := h11.conv
  have cv2 := h15.conv
  have cv3 := h30.conv
  rw [← HS1.out] at cv1
  rw [← HS2.out] at cv2
  rw [← hS3] at cv3
  clear h11 h15 h30 hS3
  go_upto_region 40 with fail
  clear cv1 cv2 cv3
  go_loopw [35] (V1 w W (some ⟨g7, 0, none⟩) rc o) (fun t _ => nn - (intOf t).toNat)
  case atStart => exact ⟨0, o.data, Nat.zero_le _, rfl, rfl, fun _ _ => rfl, fun h => absurd h (Nat.lt_irrefl _), HBA.out.ro, But.refl _ _⟩
  case round =>
    obtain ⟨v, D, hv, rfl, hDl, hDt, hD0, hDo, hDb⟩ := hrel
    rw [HNN.out] at hv
    have HDL := hid hDl
    have HDT := hid hDt
    have HD0 := hid hD0
    have HDO := hid hDo
    have HDB := hid hDb
    clear hDl hDt hD0 hDo hDb
    by_cases hlt : v < nn
    · have hdd : decide ((v : Int) < (nn : Int)) = true := decide_eq_true (by omega)
      have hl2 : (v : Int) < ((nn + 4 : Nat) : Int) := by omega
      have hl3 : (v : Int) < (nn : Int) + 4 := by omega
      obtain ⟨x, hx⟩ : ∃ x, D[v]? = some x := ⟨_, List.getElem?_eq_getElem (by have := HDL.out; have := HNN.out; omega)⟩
      obtain ⟨g', e', hfr, hcl⟩ := HDO.out.at9 (by omega)
      cases e'
      have c0 := hcl v x (by rw [List.getElem?_append_left (List.getElem?_eq_some_iff.1 hx).1]; exact hx)
      have f0 := hfr v
      obtain ⟨y, hy⟩ : ∃ y, (x + 1) % 256 = y := ⟨_, rfl⟩
      have ey : IntKind.u8.wrap ((x : Int) + 1) = (y : Int) := by rw [IntKind.wrap_u8]; omega
      have HX := hid hx
      have HY := hid hy
      clear hx hy hcl hfr
      go_wp2
      exact ⟨V1.next HX.out HY.out (by have := HNN.out; omega) HDL.out HDT.out HD0.out HDO.out HDB.out _ (by go_num), by simp [intOf]; omega⟩
    · have hdd : decide ((v : Int) < (nn : Int)) = false := decide_eq_false (by omega)
      have hge : ¬ (v : Int) < (nn : Int) := by omega
      obtain ⟨W1, hW1⟩ : ∃ W1, W1 = wr := ⟨_, rfl⟩
      rw [← hW1] at HDO HDB ⊢
      obtain ⟨o1, ho1⟩ : ∃ o1 : Cl, o1 = { o with data := D } := ⟨_, rfl⟩
      have HBA1 := hid (HBA.out.bytes HDB.out HDL.out HDO.out)
      rw [← ho1] at HBA1
      have HNE1 : Hid (nn ≠ 0 → o ≠ o1) := fun h e => by
        have := congrArg Cl.data e
        rw [ho1] at this
        exact HD0.out (by omega) (by rw [this])
      have HLE1 : Hid (o1.data.length = nn) := by unfold Hid; rw [ho1, ← HNN.out]; exact HDL.out
      have HH1 : Hid (Bx W1 b21 L21 ∧ Bx W1 b25 L25) := ⟨HH.out.1.but HDB.out (fun e => by have := (HBA.out.lr _ e).1; have := HR2.out; omega), HH.out.2.but HDB.out (fun e => by have := (HBA.out.lr _ e).1; have := HR2.out; omega)⟩
      clear hW1 ho1 HDO HDB HDL HDT HD0
      go_upto_region 44 with fail
      go_loopw [36] (V2 w W1 (some ⟨g8, 0, none⟩) gc p) (fun t _ => mm - (intOf t).toNat)
      case atStart => exact ⟨0, p.gifts, Nat.zero_le _, rfl, rfl, fun _ _ => rfl, fun h => absurd h (Nat.lt_irrefl _), fm9_all HBA.out.fp, HBA1.out.gi, But.refl _ _⟩
      case round =>
        obtain ⟨u, G, hu, rfl, hGl, hGt, hG0, hGa, hGo, hGb⟩ := hrel
        rw [HMM.out] at hu
        have HGL := hid hGl
        have HGT := hid hGt
        have HG0 := hid hG0
        have HGA := hid hGa
        have HGO := hid hGo
        have HGB := hid hGb
        clear hGl hGt hG0 hGa hGo hGb
        by_cases hlu : u < mm
        · have hdu : decide ((u : Int) < (mm : Int)) = true := decide_eq_true (by omega)
          have hu2 : (u : Int) < ((mm + 3 : Nat) : Int) := by omega
          have hu3 : (u : Int) < (mm : Int) + 3 := by omega
          obtain ⟨x, hx⟩ : ∃ x, G[u]? = some x := ⟨_, List.getElem?_eq_getElem (by have := HGL.out; have := HMM.out; omega)⟩
          obtain ⟨g', e', hfr, hcl⟩ := HGO.out.at9 (by omega)
          cases e'
          have c0 := hcl u x (by rw [List.getElem?_append_left (List.getElem?_eq_some_iff.1 hx).1]; exact hx)
          have f0 := hfr u
          obtain ⟨y, hy⟩ : ∃ y, 65535 - x = y := ⟨_, rfl⟩
          have hxb := HGA.out x (List.mem_of_getElem? hx)
          have ey : IntKind.i64.wrap (65535 - x) = y := by rw [IntKind.wrap_i64]; omega
          have HX := hid hx
          have HY := hid hy
          clear hx hy hcl hfr hxb
          go_wp2
          exact ⟨V2.next HX.out HY.out (by have := HMM.out; omega) HGL.out HGT.out HG0.out HGA.out HGO.out HGB.out _ (by go_num), by simp [intOf]; omega⟩
        · have hdu : decide ((u : Int) < (mm : Int)) = false := decide_eq_false (by omega)
          have hge2 : ¬ (u : Int) < (mm : Int) := by omega
          obtain ⟨W2, hW2⟩ : ∃ W2, W2 = wr := ⟨_, rfl⟩
          rw [← hW2] at HGO HGB ⊢
          obtain ⟨p1, hp1⟩ : ∃ p1 : Cl, p1 = { p with gifts := G } := ⟨_, rfl⟩
          have HBA2 := hid (HBA1.out.ints HGB.out HGL.out HGA.out HGO.out)
          rw [← hp1] at HBA2
          have HNE2 : Hid (mm ≠ 0 → p ≠ p1) := fun h e => by
            have := congrArg Cl.gifts e
            rw [hp1] at this
            exact HG0.out (by omega) (by rw [this])
          have HH2 : Hid (Bx W2 b21 L21 ∧ Bx W2 b25 L25) := ⟨HH1.out.1.but HGB.out (fun e => by have := (HBA1.out.lg _ e).1; have := HR2.out; omega), HH1.out.2.but HGB.out (fun e => by have := (HBA1.out.lg _ e).1; have := HR2.out; omega)⟩
          clear hW2 hp1 HGO HGB HGL HGT HG0 HGA HH1
          have HLO := hid (ld41 HBA2.out.xo.range HBA2.out.co.len)
          have lmo : Mo.length = 13 := HBA2.out.co.len
          have lmp : Mp.length = 13 := HBA2.out.cp.len
          have HNO : Hid (∀ k, W2.heap.size ≤ k → ¬ (k = b21 ∨ k = b25)) := fun k hk e => by
            have h1 := HH2.out.1.lt (by have := HL2.out; omega)
            have h2 := HH2.out.2.lt (by have := HL2.out; omega)
            omega
          have HSO : Hid (∀ n, (ly o1).length = n → n ≤ 140737488355328) := fun n hn => by
            have := lenC_le HBA2.out.fo
            rw [← ly_len] at this
            omega
          have HSP : Hid (∀ n, (ly p1).length = n → n ≤ 140737488355328) := fun n hn => by
            have := lenC_le HBA2.out.fp
            rw [← ly_len] at this
            omega
          have HPO := hid (ps_lay HBA2.out.fo HBA2.out.ho.1 HBA2.out.ho.2)
          have HPP := hid (ps_lay HBA2.out.fp HBA2.out.hp.1 HBA2.out.hp.2)
          have HGF1 : Hid (o1.gifts.length ≤ 17592186044416) := by have := fm_gifts HBA2.out.fo; unfold Hid; omega
          have HGF2 : Hid (p1.gifts.length ≤ 17592186044416) := by have := fm_gifts HBA2.out.fp; unfold Hid; omega
          have HSM1 := hid (smB_self o1)
          have HSM2 := hid (smB_self p1)
          have mk0 := hid True.intro
          go_upto_region 51 with (first | ((with_reducible refine ld_arm HLO.out ?_ ?_); (· rfl)) | ((with_reducible refine ld_arm HLP4.out ?_ ?_); (· rfl)) | (clear mk0; go_at_call 15; refine (bytes_ok Mo o1 _ HBA2.out.co HBA2.out.fo).mono ?_; rintro e w4 ⟨a4, n4, c4, rfl, hown4, hb4⟩; have HA4 := hid hown4; have HZ4 := hid hb4.size; have HBA4 := hid (HBA2.out.later hb4); have HH4 := hid (And.intro (HH2.out.1.later hb4) (HH2.out.2.later hb4)); have HLP4 := hid (ld41 HBA4.out.xp.range lmp); clear hown4 hb4; have mk1 := hid True.intro) | (clear mk1; go_at_call 15; refine (bytes_ok Mp p1 _ HBA4.out.cp HBA4.out.fp).mono ?_; rintro e w5 ⟨a5, n5, c5, rfl, hown5, hb5⟩; have HZ5 : Hid (W2.heap.size ≤ w5.heap.size) := Nat.le_trans HZ4.out hb5.size; have HG5 := hid (hown5.mono HZ4.out); have HA5 := hid (HA4.out.later hb5); have HBA5 := hid (HBA4.out.later hb5); have HH5 := hid (And.intro (HH4.out.1.later hb5) (HH4.out.2.later hb5)); clear hown5 hb5; have mk2 := hid True.intro) | (clear mk2; go_at_call 16; refine (parse_some a4 n4 c4 (ly o1) _ HA5.out.read (HSO.out n4 HA5.out.len) HPO.out).mono ?_; rintro e w6 ⟨Lp, rfl, hc6, hb6⟩; have lp := hc6.len; obtain ⟨w7, hst7, hx7, hb7⟩ := store_old (HH5.out.1.later hb6) (lp.trans HL2.out.1.symm) hc6.one; have HX7 := hid hx7; have HZ7 : Hid (W2.heap.size ≤ w7.heap.size) := Nat.le_trans HZ5.out (Nat.le_trans hb6.size hb7.size); have HC7 : Hid (Co w7 W2.heap.size Lp o1) := (hc6.mono HZ5.out).but hb7 (fun k hk e => HNO.out k hk (.inl e)); have HBA7 := hid ((HBA5.out.later hb6).but hb7 (fun k hk => (by have := HR2.out; omega))); have HY7 := hid ((HH5.out.2.later hb6).but hb7 (fun e => (by have := HR2.out; omega))); have HA7 := hid ((HA5.out.later hb6).but9 hb7 (fun k hk e => HNO.out k (HA5.out.blk k hk) (.inl e))); have HG7 := hid ((HG5.out.later hb6).but9 hb7 (fun k hk e => HNO.out k (HG5.out.blk k hk) (.inl e))); clear hc6 hb6 hx7 hb7; have mk3 := hid True.intro) | (clear mk3; go_at_call 16; refine (parse_some a5 n5 c5 (ly p1) _ HG7.out.read (HSP.out n5 HG7.out.len) HPP.out).mono ?_; rintro e w8 ⟨Lq, rfl, hc8, hb8⟩; have lq := hc8.len; obtain ⟨w9, hst9, hx9, hb9⟩ := store_old (HY7.out.later hb8) (lq.trans HL2.out.2.symm) hc8.one; have HXZ8 := hid hx9; have HQ8 : Hid (Cc w9 Lq p1) := ((hc8.mono HZ7.out).but hb9 (fun k hk e => HNO.out k hk (.inr e))).cc; have HBA8 := hid ((HBA7.out.later hb8).but hb9 (fun k hk => (by have := HR2.out; omega))); have HX8 := hid ((HX7.out.later hb8).but hb9 (fun e => (by have := HR2.out; omega))); have HP8 : Hid (Cc w9 Lp o1) := ((HC7.out.later hb8).but hb9 (fun k hk e => HNO.out k hk (.inr e))).cc; have HA8 := hid ((HA7.out.later hb8).but9 hb9 (fun k hk e => HNO.out k (HA7.out.blk k hk) (.inr e))).read; have HG8 := hid ((HG7.out.later hb8).but9 hb9 (fun k hk e => HNO.out k (HG7.out.blk k hk) (.inr e))).read; have HO8 := hid HBA8.out.co; have HPP8 := hid HBA8.out.cp; have HXP8 := hid HBA8.out.xp; have HB8 := hid HBA8.out.bl; have HLA1 := hid (ld41 HX8.out.range lp); have HLA2 := hid (ld41 HBA8.out.xo.range lmo); clear hc8 hb8 hx9 hb9; have mk6 := hid True.intro))
          obtain ⟨T1, hT1⟩ : ∃ T, strB (ly o1) = T := ⟨_, rfl⟩
          obtain ⟨T2, hT2⟩ : ∃ T, strB (ly p1) = T := ⟨_, rfl⟩
          have HT1 := hid hT1
          have HT2 := hid hT2
          have HQ1 : Hid (nn ≠ 0 → (!(T1.toList == S1.toList)) = true) := fun h => by
            rw [HS1.out, ← hT1]
            exact str_ne (fun x hx => HA8.out.small x hx) HSM.out.1 (Ne.symm (ly_ne HBA.out.fo HBA2.out.fo HBA.out.ho HBA2.out.ho (HNE1.out h)))
          have HQ2 : Hid (mm ≠ 0 → (!(T2.toList == S2.toList)) = true) := fun h => by
            rw [HS2.out, ← hT2]
            exact str_ne (fun x hx => HG8.out.small x hx) HSM.out.2 (Ne.symm (ly_ne HBA.out.fp HBA2.out.fp HBA.out.hp HBA2.out.hp (HNE2.out h)))
          clear hT1 hT2
          by_cases z1 : nn = 0
          · by_cases z2 : mm = 0
            · obtain rfl : nn = 0 := z1
              obtain rfl : mm = 0 := z2
              go_wp2_with (first | ((with_reducible refine ld_armg HLG1.out ?_ ?_ ?_); (· rfl); (· rfl)) | ((with_reducible refine ld_armg HLG2.out ?_ ?_ ?_); (· rfl); (· rfl)) | ((with_reducible refine ld_arm HLA1.out ?_ ?_); (· rfl)) | ((with_reducible refine ld_arm HLA2.out ?_ ?_); (· rfl)) | (clear mk6; go_at_call 17; refine (same_any Lp Mo o1 o1 _ HP8.out HO8.out HGF1.out).mono ?_; rintro e wa ⟨rfl, hb9⟩; rw [HSM1.out]; have HLG1 := hid (ld41 (HXZ8.out.later hb9).range lq); have HLG2 := hid (ld41 (HXP8.out.later hb9).range lmp); have HCQ9 := hid (HQ8.out.later hb9); have HCP9 := hid (HPP8.out.later hb9); have HB9 := hid (below_call HB8.out hb9); have HA9 := hid (HA8.out.later hb9); have HG9 := hid (HG8.out.later hb9); clear hb9; have mk7 := hid True.intro) | (clear mk7; go_at_call 17; refine (same_any Lq Mp p1 p1 _ HCQ9.out HCP9.out HGF2.out).mono ?_; rintro e wb ⟨rfl, hb10⟩; rw [HSM2.out]; have cva := (HA9.out.later hb10).conv; have cvg := (HG9.out.later hb10).conv; have HB10 := hid (below_call HB9.out hb10); clear hb10; rw [HT1.out] at cva; rw [HT2.out] at cvg; have mk8 := hid True.intro))
              first | (go_ret; exact HK.out _ HB10.out ..) | exact HK.out _ HB10.out ..
            · obtain rfl : nn = 0 := z1
              have e2 : ((mm : Int) == 0) = false := by simp; omega
              have q2 := HQ2.out z2
              go_wp2_with (first | ((with_reducible refine ld_armg HLG1.out ?_ ?_ ?_); (· rfl); (· rfl)) | ((with_reducible refine ld_armg HLG2.out ?_ ?_ ?_); (· rfl); (· rfl)) | ((with_reducible refine ld_arm HLA1.out ?_ ?_); (· rfl)) | ((with_reducible refine ld_arm HLA2.out ?_ ?_); (· rfl)) | (clear mk6; go_at_call 17; refine (same_any Lp Mo o1 o1 _ HP8.out HO8.out HGF1.out).mono ?_; rintro e wa ⟨rfl, hb9⟩; rw [HSM1.out]; have HLG1 := hid (ld41 (HXZ8.out.later hb9).range lq); have HLG2 := hid (ld41 (HXP8.out.later hb9).range lmp); have HCQ9 := hid (HQ8.out.later hb9); have HCP9 := hid (HPP8.out.later hb9); have HB9 := hid (below_call HB8.out hb9); have HA9 := hid (HA8.out.later hb9); have HG9 := hid (HG8.out.later hb9); clear hb9; have mk7 := hid True.intro) | (clear mk7; go_at_call 17; refine (same_any Lq Mp p1 p1 _ HCQ9.out HCP9.out HGF2.out).mono ?_; rintro e wb ⟨rfl, hb10⟩; rw [HSM2.out]; have cva := (HA9.out.later hb10).conv; have cvg := (HG9.out.later hb10).conv; have HB10 := hid (below_call HB9.out hb10); clear hb10; rw [HT1.out] at cva; rw [HT2.out] at cvg; have mk8 := hid True.intro))
              first | (go_ret; exact HK.out _ HB10.out ..) | exact HK.out _ HB10.out ..
          · by_cases z2 : mm = 0
            · have e1 : ((nn : Int) == 0) = false := by simp; omega
              have q1 := HQ1.out z1
              obtain rfl : mm = 0 := z2
              go_wp2_with (first | ((with_reducible refine ld_armg HLG1.out ?_ ?_ ?_); (· rfl); (· rfl)) | ((with_reducible refine ld_armg HLG2.out ?_ ?_ ?_); (· rfl); (· rfl)) | ((with_reducible refine ld_arm HLA1.out ?_ ?_); (· rfl)) | ((with_reducible refine ld_arm HLA2.out ?_ ?_); (· rfl)) | (clear mk6; go_at_call 17; refine (same_any Lp Mo o1 o1 _ HP8.out HO8.out HGF1.out).mono ?_; rintro e wa ⟨rfl, hb9⟩; rw [HSM1.out]; have HLG1 := hid (ld41 (HXZ8.out.later hb9).range lq); have HLG2 := hid (ld41 (HXP8.out.later hb9).range lmp); have HCQ9 := hid (HQ8.out.later hb9); have HCP9 := hid (HPP8.out.later hb9); have HB9 := hid (below_call HB8.out hb9); have HA9 := hid (HA8.out.later hb9); have HG9 := hid (HG8.out.later hb9); clear hb9; have mk7 := hid True.intro) | (clear mk7; go_at_call 17; refine (same_any Lq Mp p1 p1 _ HCQ9.out HCP9.out HGF2.out).mono ?_; rintro e wb ⟨rfl, hb10⟩; rw [HSM2.out]; have cva := (HA9.out.later hb10).conv; have cvg := (HG9.out.later hb10).conv; have HB10 := hid (below_call HB9.out hb10); clear hb10; rw [HT1.out] at cva; rw [HT2.out] at cvg; have mk8 := hid True.intro))
              first | (go_ret; exact HK.out _ HB10.out ..) | exact HK.out _ HB10.out ..
            · have e1 : ((nn : Int) == 0) = false := by simp; omega
              have q1 := HQ1.out z1
              have e2 : ((mm : Int) == 0) = false := by simp; omega
              have q2 := HQ2.out z2
              go_wp2_with (first | ((with_reducible refine ld_armg HLG1.out ?_ ?_ ?_); (· rfl); (· rfl)) | ((with_reducible refine ld_armg HLG2.out ?_ ?_ ?_); (· rfl); (· rfl)) | ((with_reducible refine ld_arm HLA1.out ?_ ?_); (· rfl)) | ((with_reducible refine ld_arm HLA2.out ?_ ?_); (· rfl)) | (clear mk6; go_at_call 17; refine (same_any Lp Mo o1 o1 _ HP8.out HO8.out HGF1.out).mono ?_; rintro e wa ⟨rfl, hb9⟩; rw [HSM1.out]; have HLG1 := hid (ld41 (HXZ8.out.later hb9).range lq); have HLG2 := hid (ld41 (HXP8.out.later hb9).range lmp); have HCQ9 := hid (HQ8.out.later hb9); have HCP9 := hid (HPP8.out.later hb9); have HB9 := hid (below_call HB8.out hb9); have HA9 := hid (HA8.out.later hb9); have HG9 := hid (HG8.out.later hb9); clear hb9; have mk7 := hid True.intro) | (clear mk7; go_at_call 17; refine (same_any Lq Mp p1 p1 _ HCQ9.out HCP9.out HGF2.out).mono ?_; rintro e wb ⟨rfl, hb10⟩; rw [HSM2.out]; have cva := (HA9.out.later hb10).conv; have cvg := (HG9.out.later hb10).conv; have HB10 := hid (below_call HB9.out hb10); clear hb10; rw [HT1.out] at cva; rw [HT2.out] at cvg; have mk8 := hid True.intro))
              first | (go_ret; exact HK.out _ HB10.out ..) | exact HK.out _ HB10.out ..
end Go.Proofs.Ytaffgoacbiedlaa
namespace Go.Proofs.Ytaffgoacbiedlaa
open Go.RowKit
set_option linter.unusedVariables false
set_option linter.unusedSimpArgs false
set_option maxRecDepth 1000000 in
set_option maxHeartbeats 8000000 in
theorem fr_27 {u0 u1 u2 u3 u4 u12 u14 u16 u22 u24 u26 u28 u33 u34 u35 u36 u37 u38 u39 u40 u41 u42 u43 u44 u45 u46 u47 u48 u49 u50 u51 u52 u53 u54 u55 u56 u57 u58 u59 u60 u61 u62 u63 u64 u65 u66 u67 u68 u69 u70 u71 u72 u73 u74 u75 u76 u77 u78 u79 u80 u81 u82 u83 u84 u85 u86 u87 u88 u89 u90 u91 u92 u93 u94 u95 u96 u97 u98 u99 u100 u101 u102 u103 u104 u105 u106 u107 u108 u109 u110 u111 u112 u113 u114 u115 u116 u117 u118 u119 u120 u121 u122 u123 u124 u125 u126 u127 u128 u129 u130 u131 u132 u133 u134 u135 u136 u137 u138 u139 u140 u141 u142 u143 u144 u145 u146 u147 u148 u149 u150 u151 u152 u153 u154 u155 u156 u157 u158 u159 u160 u161 u162 u163 u164 u165 u166 u167 u168 u169 u170 u171 u172 u173 u174 u175 u176 u177 u178 u179 u180 u181 u182 u183 u184 u185 u186 u187 u188 u189 u190 u191 u192 u193 u194 u195 u196 u197 u198 u199 u200 u201 u202 u203 u204 u205 u206 u207 u208 u209 u210 u211 u212 u213 u214 u215 u216 u217 u218 u219 u220 u221 u222 u223 u224 u225 u226 u227 u228 u229 u230 u231 u232 u233 u234 u235 u236 u237 u238 u239 u240 u241 u242 u243 u244 u245 u246 u247 u248 u249 u250 u251 u252 u253 u254 u255 u256 u257 u258 u259 u260 u261 u262 u263 u264 u265 u266 u267 u268 u269 u270 u271 u272 u273 u274 u275 u276 u277 u278 u279 u280 u281 u282 u283 u284 u285 u286 u287 u288 u289 u290 u291 u292 u293 u294 u295 u296 u297 u298 u299 u300 u301 u302 u303 u304 u305 u306 u307 u308 u309 u310 u311 u312 u313 u314 u315 u316 u317 u318 u319 u320 u321 u322 u323 u324 u325 u326 u327 u328 u329 u330 u331 u332 u333 u334 u335 u336 u337 u338 u339 u340 u341 u342 u343 u344 u345 u346 u347 u348 u349 u350 u351 u352 u353 u354 u355 u356 u357 u358 u359 u360 u361 u362 u363 u364 u365 u366 u367 u368 u369 u370 u371 u372 u373 u374 u375 u376 u377 u378 u379 u380 u381 u382 u383 u384 u385 u386 u387 u388 u389 u390 u391 u392 u393 u394 u395 u396 u397 u398 u399 u400 u401 u402 u403 u404 u405 u406 u407 u408 u409 u410 u411 u412 u413 u414 u415 u416 u417 u418 u419 u420 : Value} {Qx : Exit → Act → World → Prop} {w W : World} {r bo bp nn mm : Nat} {Mo Mp : List Value} {o p : Cl} {ra : Option Addr} {rc : Nat} {ga : Option Addr} {gc : Nat} (hba : Ba w W r bo bp Mo Mp o p ra rc ga gc) (hnn : o.data.length = nn) (hmm : p.gifts.length = mm) (b21 b23 b25 b27 b29 : Nat) (L21 L23 L25 L27 : List Value) (S1 S2 S3 : ByteArray) (wa la aa ab ag aq ax ay az au : Option Addr) (k1 wc k2 lc na ca nb cb ng cg nq cq nx cx ny cy nz cz nu cu ra0 ra1 rb1 rg1 rw1 rx0 rx1 ry0 ry1 rz0 rz1 ru0 ru1 rq0 rq1 : Nat)
    (hA : Lo W ra0 ra1 aa na ca (ly o)) (hB : Lo W ra1 rb1 ab nb cb (ly o)) (hG : Lo W rb1 rg1 ag ng cg (ly p)) (hWd : Row W wa (k1 + 3) wc (ly o ++ [11, 12, 13])) (hLw : Row W la (k2 + 3) lc (ly p ++ [11, 12, 13])) (hWb : ∀ k, Blk wa k → rg1 ≤ k ∧ k < rw1) (hLb : ∀ k, Blk la k → rg1 ≤ k ∧ k < rw1)
    (h21 : Bx W b21 L21) (h23 : Bx W b23 L23) (h25 : Bx W b25 L25) (h27 : Bx W b27 L27) (h29 : Bx W b29 (rC (rpO o) ⟨ra, min nn 1024, rc⟩)) (l21 : L21.length = 13 ∧ L21[10]? = some (.slice ax nx cx)) (l23 : L23.length = 13 ∧ L23[10]? = some (.slice ay ny cy)) (l25 : L25.length = 13 ∧ L25[12]? = some (.slice az nz cz)) (l27 : L27.length = 13 ∧ L27[12]? = some (.slice au nu cu))
    (hX : Lo W rx0 rx1 ax nx cx o.data) (hY : Lo W ry0 ry1 ay ny cy o.data) (hZ : Li W rz0 rz1 az nz cz p.gifts) (hU : Li W ru0 ru1 au nu cu p.gifts) (hQ : Lo W rq0 rq1 aq nq cq (rly 5 (rpO o)))
    (hor : r ≤ ra0 ∧ rg1 ≤ rw1 ∧ rw1 ≤ rx0 ∧ rx1 ≤ b21 ∧ b21 < ry0 ∧ ry1 ≤ b23 ∧ b23 < rz0 ∧ rz1 ≤ b25 ∧ b25 < ru0 ∧ ru1 ≤ b27 ∧ b27 < b29 ∧ b29 < rq0) (hS1 : S1 = strB (ly o)) (hS2 : S2 = strB (ly p)) (hS3 : S3 = strB (rly 5 (rpO o)))
    (hK : ∀ (w' : World), Below w.heap.size w w' → ∀ (v11 v15 v30 v33 v34 v35 v36 v37 v38 v39 v40 v41 v42 v43 v44 v45 v46 v47 v48 v49 v50 v51 v52 v53 v54 v55 v56 v57 v58 v59 v60 v61 v62 v63 v64 v65 v66 v67 v68 v69 v70 v71 v72 v73 v74 v75 v76 v77 v78 v79 v80 v81 v82 v83 v84 v85 v86 v87 v88 v89 v90 v91 v92 v93 v94 v95 v96 v97 v98 v99 v100 v101 v102 v103 v104 v105 v106 v107 v108 v109 v110 v111 v112 v113 v114 v115 v116 v117 v118 v119 v120 v121 v122 v123 v124 v125 v126 v127 v128 v129 v130 v131 v132 v133 v134 v135 v136 v137 v138 v139 v140 v141 v142 v143 v144 v145 v146 v147 v148 v149 v150 v151 v152 v153 v154 v155 v156 v157 v158 v159 v160 v161 v162 v163 v164 v165 v166 v167 v168 v169 v170 v171 v172 v173 v174 v175 v176 v177 v178 v179 v180 v181 v182 v183 v184 v185 v186 v187 v188 v189 v190 v191 v192 v193 v194 v195 v196 v197 v198 v199 v200 v201 v202 v203 v204 v205 v206 v207 v208 v209 v210 v211 v212 v213 v214 v215 v216 v217 v218 v219 v220 v221 v222 v223 v224 v225 v226 v227 v228 v229 v230 v231 v232 v233 v234 v235 v236 v237 v238 v239 v240 v241 v242 v243 v244 v245 v246 v247 v248 v249 v250 v251 v252 v253 v254 v255 v256 v257 v258 v259 v260 v261 v262 v263 v264 v265 v266 v267 v268 v269 v270 v271 v272 v273 v274 v275 v276 v277 v278 v279 v280 v281 v282 v283 v284 v285 v286 v287 v288 v289 v290 v291 v292 v293 v294 v295 v296 v297 v298 v299 v300 v301 v302 v303 v304 v305 v306 v307 v308 v309 v310 v311 v312 v313 v314 v315 v316 v317 v318 v319 v320 v321 v322 v323 v324 v325 v326 v327 v328 v329 v330 v331 v332 v333 v334 v335 v336 v337 v338 v339 v340 v341 v342 v343 v344 v345 v346 v347 v348 v349 v350 v351 v352 v353 v354 v355 v356 v357 v358 v359 v360 v361 v362 v363 v364 v365 v366 v367 v368 v369 v370 v371 v372 v373 v374 v375 v376 v377 v378 v379 v380 v381 v382 v383 v384 v385 v386 v387 v388 v389 v390 v391 v392 v393 v394 v395 v396 v397 v398 v399 v400 v401 v402 v403 v404 v405 v406 v407 v408 v409 v410 v411 v412 v413 v414 v415 v416 v417 v418 v419 v420 : Value), Qx .ret ⟨List.toArray (u0 :: u1 :: u2 :: u3 :: .bool true :: .pointer (some ⟨bo, 0, none⟩) :: .pointer (some ⟨bp, 0, none⟩) :: .slice ra (nn + 4) rc :: .slice ga (mm + 3) gc :: .int .i64 (nn : Int) :: .int .i64 (mm : Int) :: v11 :: u12 :: .slice ab nb cb :: u14 :: v15 :: u16 :: .string S1 :: .string S2 :: .slice wa (k1 + 3) wc :: .slice la (k2 + 3) lc :: .pointer (some ⟨b21, 0, none⟩) :: u22 :: .pointer (some ⟨b23, 0, none⟩) :: u24 :: .pointer (some ⟨b25, 0, none⟩) :: u26 :: .pointer (some ⟨b27, 0, none⟩) :: u28 :: .pointer (some ⟨b29, 0, none⟩) :: v30 :: .int .i64 0 :: .string S3 :: v33 :: v34 :: v35 :: v36 :: v37 :: v38 :: v39 :: v40 :: v41 :: v42 :: v43 :: v44 :: v45 :: v46 :: v47 :: v48 :: v49 :: v50 :: v51 :: v52 :: v53 :: v54 :: v55 :: v56 :: v57 :: v58 :: v59 :: v60 :: v61 :: v62 :: v63 :: v64 :: v65 :: v66 :: v67 :: v68 :: v69 :: v70 :: v71 :: v72 :: v73 :: v74 :: v75 :: v76 :: v77 :: v78 :: v79 :: v80 :: v81 :: v82 :: v83 :: v84 :: v85 :: v86 :: v87 :: v88 :: v89 :: v90 :: v91 :: v92 :: v93 :: v94 :: v95 :: v96 :: v97 :: v98 :: v99 :: v100 :: v101 :: v102 :: v103 :: v104 :: v105 :: v106 :: v107 :: v108 :: v109 :: v110 :: v111 :: v112 :: v113 :: v114 :: v115 :: v116 :: v117 :: v118 :: v119 :: v120 :: v121 :: v122 :: v123 :: v124 :: v125 :: v126 :: v127 :: v128 :: v129 :: v130 :: v131 :: v132 :: v133 :: v134 :: v135 :: v136 :: v137 :: v138 :: v139 :: v140 :: v141 :: v142 :: v143 :: v144 :: v145 :: v146 :: v147 :: v148 :: v149 :: v150 :: v151 :: v152 :: v153 :: v154 :: v155 :: v156 :: v157 :: v158 :: v159 :: v160 :: v161 :: v162 :: v163 :: v164 :: v165 :: v166 :: v167 :: v168 :: v169 :: v170 :: v171 :: v172 :: v173 :: v174 :: v175 :: v176 :: v177 :: v178 :: v179 :: v180 :: v181 :: v182 :: v183 :: v184 :: v185 :: v186 :: v187 :: v188 :: v189 :: v190 :: v191 :: v192 :: v193 :: v194 :: v195 :: v196 :: v197 :: v198 :: v199 :: v200 :: v201 :: v202 :: v203 :: v204 :: v205 :: v206 :: v207 :: v208 :: v209 :: v210 :: v211 :: v212 :: v213 :: v214 :: v215 :: v216 :: v217 :: v218 :: v219 :: v220 :: v221 :: v222 :: v223 :: v224 :: v225 :: v226 :: v227 :: v228 :: v229 :: v230 :: v231 :: v232 :: v233 :: v234 :: v235 :: v236 :: v237 :: v238 :: v239 :: v240 :: v241 :: v242 :: v243 :: v244 :: v245 :: v246 :: v247 :: v248 :: v249 :: v250 :: v251 :: v252 :: v253 :: v254 :: v255 :: v256 :: v257 :: v258 :: v259 :: v260 :: v261 :: v262 :: v263 :: v264 :: v265 :: v266 :: v267 :: v268 :: v269 :: v270 :: v271 :: v272 :: v273 :: v274 :: v275 :: v276 :: v277 :: v278 :: v279 :: v280 :: v281 :: v282 :: v283 :: v284 :: v285 :: v286 :: v287 :: v288 :: v289 :: v290 :: v291 :: v292 :: v293 :: v294 :: v295 :: v296 :: v297 :: v298 :: v299 :: v300 :: v301 :: v302 :: v303 :: v304 :: v305 :: v306 :: v307 :: v308 :: v309 :: v310 :: v311 :: v312 :: v313 :: v314 :: v315 :: v316 :: v317 :: v318 :: v319 :: v320 :: v321 :: v322 :: v323 :: v324 :: v325 :: v326 :: v327 :: v328 :: v329 :: v330 :: v331 :: v332 :: v333 :: v334 :: v335 :: v336 :: v337 :: v338 :: v339 :: v340 :: v341 :: v342 :: v343 :: v344 :: v345 :: v346 :: v347 :: v348 :: v349 :: v350 :: v351 :: v352 :: v353 :: v354 :: v355 :: v356 :: v357 :: v358 :: v359 :: v360 :: v361 :: v362 :: v363 :: v364 :: v365 :: v366 :: v367 :: v368 :: v369 :: v370 :: v371 :: v372 :: v373 :: v374 :: v375 :: v376 :: v377 :: v378 :: v379 :: v380 :: v381 :: v382 :: v383 :: v384 :: v385 :: v386 :: v387 :: v388 :: v389 :: v390 :: v391 :: v392 :: v393 :: v394 :: v395 :: v396 :: v397 :: v398 :: v399 :: v400 :: v401 :: v402 :: v403 :: v404 :: v405 :: v406 :: v407 :: v408 :: v409 :: v410 :: v411 :: v412 :: v413 :: v414 :: v415 :: v416 :: v417 :: v418 :: v419 :: v420 :: []), []⟩ w') :
    Code.wp Try.prog (rs 25 (Try.f5.body.getD .skip)) Qx ⟨List.toArray (u0 :: u1 :: u2 :: u3 :: u4 :: .pointer (some ⟨bo, 0, none⟩) :: .pointer (some ⟨bp, 0, none⟩) :: .slice ra (nn + 4) rc :: .slice ga (mm + 3) gc :: .int .i64 (nn : Int) :: .int .i64 (mm : Int) :: .slice aa na ca :: u12 :: .slice ab nb cb :: u14 :: .slice ag ng cg :: u16 :: .string S1 :: .string S2 :: .slice wa (k1 + 3) wc :: .slice la (k2 + 3) lc :: .pointer (some ⟨b21, 0, none⟩) :: u22 :: .pointer (some ⟨b23, 0, none⟩) :: u24 :: .pointer (some ⟨b25, 0, none⟩) :: u26 :: .pointer (some ⟨b27, 0, none⟩) :: u28 :: .pointer (some ⟨b29, 0, none⟩) :: .slice aq nq cq :: .int .i64 0 :: .string S3 :: u33 :: u34 :: u35 :: u36 :: u37 :: u38 :: u39 :: u40 :: u41 :: u42 :: u43 :: u44 :: u45 :: u46 :: u47 :: u48 :: u49 :: u50 :: u51 :: u52 :: u53 :: u54 :: u55 :: u56 :: u57 :: u58 :: u59 :: u60 :: u61 :: u62 :: u63 :: u64 :: u65 :: u66 :: u67 :: u68 :: u69 :: u70 :: u71 :: u72 :: u73 :: u74 :: u75 :: u76 :: u77 :: u78 :: u79 :: u80 :: u81 :: u82 :: u83 :: u84 :: u85 :: u86 :: u87 :: u88 :: u89 :: u90 :: u91 :: u92 :: u93 :: u94 :: u95 :: u96 :: u97 :: u98 :: u99 :: u100 :: u101 :: u102 :: u103 :: u104 :: u105 :: u106 :: u107 :: u108 :: u109 :: u110 :: u111 :: u112 :: u113 :: u114 :: u115 :: u116 :: u117 :: u118 :: u119 :: u120 :: u121 :: u122 :: u123 :: u124 :: u125 :: u126 :: u127 :: u128 :: u129 :: u130 :: u131 :: u132 :: u133 :: u134 :: u135 :: u136 :: u137 :: u138 :: u139 :: u140 :: u141 :: u142 :: u143 :: u144 :: u145 :: u146 :: u147 :: u148 :: u149 :: u150 :: u151 :: u152 :: u153 :: u154 :: u155 :: u156 :: u157 :: u158 :: u159 :: u160 :: u161 :: u162 :: u163 :: u164 :: u165 :: u166 :: u167 :: u168 :: u169 :: u170 :: u171 :: u172 :: u173 :: u174 :: u175 :: u176 :: u177 :: u178 :: u179 :: u180 :: u181 :: u182 :: u183 :: u184 :: u185 :: u186 :: u187 :: u188 :: u189 :: u190 :: u191 :: u192 :: u193 :: u194 :: u195 :: u196 :: u197 :: u198 :: u199 :: u200 :: u201 :: u202 :: u203 :: u204 :: u205 :: u206 :: u207 :: u208 :: u209 :: u210 :: u211 :: u212 :: u213 :: u214 :: u215 :: u216 :: u217 :: u218 :: u219 :: u220 :: u221 :: u222 :: u223 :: u224 :: u225 :: u226 :: u227 :: u228 :: u229 :: u230 :: u231 :: u232 :: u233 :: u234 :: u235 :: u236 :: u237 :: u238 :: u239 :: u240 :: u241 :: u242 :: u243 :: u244 :: u245 :: u246 :: u247 :: u248 :: u249 :: u250 :: u251 :: u252 :: u253 :: u254 :: u255 :: u256 :: u257 :: u258 :: u259 :: u260 :: u261 :: u262 :: u263 :: u264 :: u265 :: u266 :: u267 :: u268 :: u269 :: u270 :: u271 :: u272 :: u273 :: u274 :: u275 :: u276 :: u277 :: u278 :: u279 :: u280 :: u281 :: u282 :: u283 :: u284 :: u285 :: u286 :: u287 :: u288 :: u289 :: u290 :: u291 :: u292 :: u293 :: u294 :: u295 :: u296 :: u297 :: u298 :: u299 :: u300 :: u301 :: u302 :: u303 :: u304 :: u305 :: u306 :: u307 :: u308 :: u309 :: u310 :: u311 :: u312 :: u313 :: u314 :: u315 :: u316 :: u317 :: u318 :: u319 :: u320 :: u321 :: u322 :: u323 :: u324 :: u325 :: u326 :: u327 :: u328 :: u329 :: u330 :: u331 :: u332 :: u333 :: u334 :: u335 :: u336 :: u337 :: u338 :: u339 :: u340 :: u341 :: u342 :: u343 :: u344 :: u345 :: u346 :: u347 :: u348 :: u349 :: u350 :: u351 :: u352 :: u353 :: u354 :: u355 :: u356 :: u357 :: u358 :: u359 :: u360 :: u361 :: u362 :: u363 :: u364 :: u365 :: u366 :: u367 :: u368 :: u369 :: u370 :: u371 :: u372 :: u373 :: u374 :: u375 :: u376 :: u377 :: u378 :: u379 :: u380 :: u381 :: u382 :: u383 :: u384 :: u385 :: u386 :: u387 :: u388 :: u389 :: u390 :: u391 :: u392 :: u393 :: u394 :: u395 :: u396 :: u397 :: u398 :: u399 :: u400 :: u401 :: u402 :: u403 :: u404 :: u405 :: u406 :: u407 :: u408 :: u409 :: u410 :: u411 :: u412 :: u413 :: u414 :: u415 :: u416 :: u417 :: u418 :: u419 :: u420 :: []), []⟩ W := by
  conv => arg 2; whnf
  obtain ⟨Z, hZl, hZo, hZz, hz⟩ := zero30
  have hZ0 : (Z.toArray = #[]) = False := by simp; intro h; rw [h] at hZl; simp at hZl
  clear hZz hZo
  have HK := hid hK
  have HBA := hid hba
  have HNN := hid hnn
  have HMM := hid hmm
  have hn1 : nn ≤ 1025 := by rw [← hnn]; exact fm_data hba.fo
  have hm1 : mm ≤ 255 := by rw [← hmm]; exact fm_gifts hba.fp
  obtain ⟨m9, hm9⟩ : ∃ m9, min nn 1024 = m9 := ⟨_, rfl⟩
  rw [hm9] at h29
  have HM9 := hid hm9
  have HL := hid (And.intro hA (And.intro hB (And.intro hG (And.intro hX (And.intro hY hQ)))))
  have HI := hid (And.intro hZ hU)
  have HWL := hid (And.intro hWd hLw)
  have HWB := hid (And.intro hWb hLb)
  have HBX := hid (And.intro h21 (And.intro h23 (And.intro h25 (And.intro h27 h29))))
  have HLN := hid (And.intro l21 (And.intro l23 (And.intro l25 l27)))
  have HOR := hid hor
  have HS := hid (And.intro hS1 (And.intro hS2 hS3))
  have HSMQ := hid hQ.ow.small
  have hql : (rly 5 (rpO o)).length ≤ 100000 := by
    have h1 : (rpO o).data.length ≤ 1024 := by unfold rpO; rw [List.length_take]; omega
    have := told_len (op := 5) (r := rpO o) h1
    unfold rly
    rw [List.length_append, leL_length]
    split
    · omega
    · simp
  have HQL := hid hql
  have HPR : Hid (psR 5 (rly 5 (rpO o)) = some (rpO o)) := psr_lay (rpO_fm o) (by simp [rpO]) (by simp [rpO])
  obtain ⟨cE, wE, hcvE, hrwE, _, hbE⟩ := conv_back (rly 5 (rpO o)) HSMQ.out W
  rw [← hS3] at hcvE
  obtain ⟨qL, hqL⟩ : ∃ qL, (rly 5 (rpO o)).length = qL := ⟨_, rfl⟩
  rw [hqL] at hcvE hrwE hql
  have HRE := hid hrwE
  have HBE := hid hbE
  clear hK hba hnn hmm hm9 hA hB hG hX hY hQ hZ hU hWd hLw hWb hLb h21 h23 h25 h27 h29 l21 l23 l25 l27 hor hS1 hS2 hS3 hrwE hbE hqL
  have mk0 := hid True.intro
  go_upto_region 28 with (first
    | (clear mk0; go_at_call 11; refine (panswer_some 5 (some ⟨W.heap.size, 0, none⟩) qL cE (rly 5 (rpO o)) _ HRE.out (by omega) HPR.out).mono ?_; rintro e w2 ⟨L33, rfl, hc2, hb2⟩; have l33 := hc2.len; obtain ⟨w3, hst3, hx3, hb3⟩ := store_new w2 (Z := Z) (t := 30) (l33.trans hZl.symm) hc2.one; have HC2 := hid hc2; have HX3 := hid hx3; have HB23 := hid hb3; have HB2 := hid hb2; clear hc2 hb2 hx3 hb3; have mk1 := hid True.intro))
  have HT3 : Hid (Below W.heap.size W w3) := below_call (below_call HBE.out HB2.out) HB23.out
  obtain ⟨⟨a33, n33, c33⟩, e33, ho33, _, _⟩ := HC2.out.ex
  have E33 : L33[4]? = some (.slice a33 n33 c33) := by rw [e33]; rfl
  have HO33 : Hid (Lo w3 wE.heap.size w2.heap.size a33 n33 c33 (rpO o).data) := (Lo.new ho33 HB2.out.size).later HB23.out
  have x33 := HX3.out.cell 4 E33
  have x29 := (HBX.out.2.2.2.2.later HT3.out).cell 4 (v := .slice ra m9 rc) rfl
  have x21 := (HBX.out.1.later HT3.out).cell 10 HLN.out.1.2
  have x23 := (HBX.out.2.1.later HT3.out).cell 10 HLN.out.2.1.2
  have hrow9 := (HBA.out.later HT3.out).row m9 (by have := HM9.out; have := HNN.out; omega)
  obtain ⟨T9, hT9⟩ : ∃ T, strB (rpO o).data = T := ⟨_, rfl⟩
  have cvb := HO33.out.ow.read.conv
  have cvr := hrow9.conv
  have e9 : o.data.take m9 = (rpO o).data := by unfold rpO; rw [HNN.out, HM9.out]
  rw [e9] at cvr
  rw [hT9] at cvb cvr
  clear hT9 hrow9 e9 e33 ho33 E33
  have HS7 : Hid (rx1 ≤ ry0 ∧ ra0 ≤ ra1 ∧ ra1 ≤ rb1 ∧ rb1 ≤ rg1 ∧ rg1 ≤ rx0 ∧ ry1 ≤ rq0 ∧ rq1 ≤ wE.heap.size ∧ wE.heap.size ≤ w2.heap.size ∧ ru0 ≤ ru1 ∧ rz0 ≤ rz1 ∧ b29 < W.heap.size ∧ rx0 ≤ rx1 ∧ ry0 ≤ ry1 ∧ rq0 ≤ rq1) := by
    have h1 := HOR.out
    have h2 := HL.out.1.le
    have h3 := HL.out.2.1.le
    have h4 := HL.out.2.2.1.le
    have h5 := HL.out.2.2.2.1.le
    have h6 := HL.out.2.2.2.2.1.le
    have h7 := HL.out.2.2.2.2.2.le
    have h8 := HBE.out.size
    have h9 := HB2.out.size
    have h10 := HI.out.1.le
    have h11 := HI.out.2.le
    have h12 := HBX.out.2.2.2.2.lt (by simp [rC])
    unfold Hid
    omega
  have HNS : Hid (na ≤ 100000 ∧ nb ≤ 100000 ∧ ng ≤ 100000 ∧ nx ≤ 100000 ∧ ny ≤ 100000 ∧ nq ≤ 100000 ∧ n33 ≤ 100000) := by
    have h1 := HL.out.1.ow.len
    have h2 := HL.out.2.1.ow.len
    have h3 := HL.out.2.2.1.ow.len
    have h4 := HL.out.2.2.2.1.ow.len
    have h5 := HL.out.2.2.2.2.1.ow.len
    have h6 := HL.out.2.2.2.2.2.ow.len
    have h7 := HO33.out.ow.len
    have h8 := lenC_le HBA.out.fo
    have h9 := lenC_le HBA.out.fp
    have h10 := HNN.out
    have h11 := HQL.out
    have h12 : (rpO o).data.length ≤ 1024 := by unfold rpO; rw [List.length_take]; omega
    rw [← ly_len] at h8 h9
    unfold Hid
    omega
  have HNI : Hid (nz ≤ 100000 ∧ nu ≤ 100000) := by
    have h1 := HI.out.1.ow.len
    have h2 := HI.out.2.ow.len
    have h3 := HMM.out
    unfold Hid
    omega
  have HM7 := hid (marked7 (HL.out.1.later HT3.out) (HL.out.2.1.later HT3.out) (HL.out.2.2.1.later HT3.out) (HL.out.2.2.2.1.later HT3.out) (HL.out.2.2.2.2.1.later HT3.out) (HL.out.2.2.2.2.2.later HT3.out) HO33.out ⟨Nat.le_refl _, Nat.le_refl _, HS7.out.2.2.2.2.1, HS7.out.1, HS7.out.2.2.2.2.2.1, HS7.out.2.2.2.2.2.2.1⟩ HNS.out)
  obtain ⟨S7, hS7⟩ : ∃ S : Nat → Prop, S = fun k => ((ra0 ≤ k ∧ k < ra1) ∨ (ra1 ≤ k ∧ k < rb1) ∨ (rb1 ≤ k ∧ k < rg1) ∨ (rx0 ≤ k ∧ k < rx1) ∨ (ry0 ≤ k ∧ k < ry1) ∨ (rq0 ≤ k ∧ k < rq1) ∨ (wE.heap.size ≤ k ∧ k < w2.heap.size)) := ⟨_, rfl⟩
  rw [← hS7] at HM7
  have HN7 : Hid (∀ k, S7 k → (ra0 ≤ k ∧ k < rg1) ∨ (rx0 ≤ k ∧ k < rx1) ∨ (ry0 ≤ k ∧ k < ry1) ∨ rq0 ≤ k) := fun k hk => by
    rw [hS7] at hk
    have h1 := HS7.out
    omega
  clear hS7
  have HA1 : Hid (∀ b, b = b25 ∨ b = b27 → ¬ S7 b) := fun b hb e => by
    have h1 := HN7.out b e
    have h2 := HOR.out
    have h3 := HS7.out
    omega
  have HA2 : Hid (∀ k, (rz0 ≤ k ∧ k < rz1) ∨ (ru0 ≤ k ∧ k < ru1) → ¬ S7 k) := fun k hk e => by
    have h1 := HN7.out k e
    have h2 := HOR.out
    have h3 := HS7.out
    omega
  have mk2 := hid True.intro
  go_upto_region 30 with (first
    | (clear mk2; go_at_call 18; refine HM7.out.mono ?_; rintro e w4 ⟨rfl, hb4⟩; have HB4 : Hid (But S7 w3 w4) := (But.of (below1 _ _)).trans hb4; have x25 := ((HBX.out.2.2.1.later HT3.out).but HB4.out (fun e => HA1.out b25 (.inl rfl) e)).cell 12 HLN.out.2.2.1.2; have x27 := ((HBX.out.2.2.2.1.later HT3.out).but HB4.out (fun e => HA1.out b27 (.inr rfl) e)).cell 12 HLN.out.2.2.2.2; have HM2 := hid (marked2 ((HI.out.1.later HT3.out).but HB4.out (fun k h1 h2 e => HA2.out k (.inl ⟨h1, h2⟩) e)) ((HI.out.2.later HT3.out).but HB4.out (fun k h1 h2 e => HA2.out k (.inr ⟨h1, h2⟩) e)) (by have := HOR.out; have := HS7.out; omega) HNI.out); clear hb4; have mk3 := hid True.intro)
    | (clear mk3; go_at_call 19; refine HM2.out.mono ?_; rintro e w5 ⟨rfl, hb5⟩; have HB5 : Hid (But (fun k => (rz0 ≤ k ∧ k < rz1) ∨ (ru0 ≤ k ∧ k < ru1)) w4 w5) := (But.of (below1 _ _)).trans hb5; clear hb5; have mk4 := hid True.intro))
  have HBB : Hid (But (fun k => (ra0 ≤ k ∧ k < rg1) ∨ (rx0 ≤ k ∧ k < rx1) ∨ (ry0 ≤ k ∧ k < ry1) ∨ (rz0 ≤ k ∧ k < rz1) ∨ (ru0 ≤ k ∧ k < ru1) ∨ rq0 ≤ k) w3 w5) := (HB4.out.mono (fun k hk => by have := HN7.out k hk; omega)).trans (HB5.out.mono (fun k hk => by omega))
  obtain ⟨S9, hS9⟩ : ∃ S : Nat → Prop, S = fun k => ((ra0 ≤ k ∧ k < rg1) ∨ (rx0 ≤ k ∧ k < rx1) ∨ (ry0 ≤ k ∧ k < ry1) ∨ (rz0 ≤ k ∧ k < rz1) ∨ (ru0 ≤ k ∧ k < ru1) ∨ rq0 ≤ k) := ⟨_, rfl⟩
  rw [← hS9] at HBB
  have HN9 : Hid (∀ k, S9 k → r ≤ k ∧ ¬ (rg1 ≤ k ∧ k < rw1) ∧ k ≠ b21 ∧ k ≠ b25 ∧ k ≠ b29) := fun k hk => by
    rw [hS9] at hk
    have h1 := HOR.out
    have h2 := HS7.out
    omega
  have HBA5 := hid ((HBA.out.later HT3.out).but HBB.out (fun k hk => (HN9.out k hk).1))
  have HWd5 := hid ((HWL.out.1.later HT3.out).but9 HBB.out (fun k hk e => (HN9.out k e).2.1 (HWB.out.1 k hk)))
  have HLw5 := hid ((HWL.out.2.later HT3.out).but9 HBB.out (fun k hk e => (HN9.out k e).2.1 (HWB.out.2 k hk)))
  have H21 := hid ((HBX.out.1.later HT3.out).but HBB.out (fun e => (HN9.out _ e).2.2.1 rfl))
  have H25 := hid ((HBX.out.2.2.1.later HT3.out).but HBB.out (fun e => (HN9.out _ e).2.2.2.1 rfl))
  have H29 := hid ((HBX.out.2.2.2.2.later HT3.out).but HBB.out (fun e => (HN9.out _ e).2.2.2.2 rfl))
  clear hS9 x33 x29 x21 x23 x25 x27 cvb cvr HM7 HM2 HB4 HB5 HBB HL HI HBX HX3 HC2 HO33 HWL hz hZ0 hcvE
  obtain ⟨g7, rfl⟩ := HBA5.out.ra_
  obtain ⟨g8, rfl⟩ := HBA5.out.ga_
  obtain ⟨q7, e7, _, hc7⟩ := HBA5.out.ro.at9 (by omega)
  cases e7
  obtain ⟨q8, e8, _, hc8⟩ := HBA5.out.gi.at9 (by omega)
  cases e8
  obtain ⟨n1, hn1'⟩ : ∃ n1, nn + 1 = n1 := ⟨_, rfl⟩
  obtain ⟨n2, hn2'⟩ : ∃ n2, nn + 2 = n2 := ⟨_, rfl⟩
  obtain ⟨n3, hn3'⟩ : ∃ n3, nn + 3 = n3 := ⟨_, rfl⟩
  obtain ⟨m1, hm1'⟩ : ∃ m1, mm + 1 = m1 := ⟨_, rfl⟩
  obtain ⟨m2, hm2'⟩ : ∃ m2, mm + 2 = m2 := ⟨_, rfl⟩
  have i0 := hc7 nn 1 (by rw [List.getElem?_append_right (by have := HNN.out; omega), HNN.out]; simp)
  have i1 := hc7 n1 2 (by rw [List.getElem?_append_right (by have := HNN.out; omega), HNN.out, ← hn1']; simp)
  have i2 := hc7 n2 3 (by rw [List.getElem?_append_right (by have := HNN.out; omega), HNN.out, ← hn2']; simp)
  have i3 := hc7 n3 4 (by rw [List.getElem?_append_right (by have := HNN.out; omega), HNN.out, ← hn3']; simp)
  have j0 := hc8 mm 901 (by rw [List.getElem?_append_right (by have := HMM.out; omega), HMM.out]; simp)
  have j1 := hc8 m1 902 (by rw [List.getElem?_append_right (by have := HMM.out; omega), HMM.out, ← hm1']; simp)
  have j2 := hc8 m2 903 (by rw [List.getElem?_append_right (by have := HMM.out; omega), HMM.out, ← hm2']; simp)
  have p1 : (nn : Int) + 1 = (n1 : Int) := by omega
  have p2 : (nn : Int) + 2 = (n2 : Int) := by omega
  have p3 : (nn : Int) + 3 = (n3 : Int) := by omega
  have p4 : (mm : Int) + 1 = (m1 : Int) := by omega
  have p5 : (mm : Int) + 2 = (m2 : Int) := by omega
  have w1 : IntKind.i64.wrap (n1 : Int) = (n1 : Int) := by rw [IntKind.wrap_i64]; omega
  have w2' : IntKind.i64.wrap (n2 : Int) = (n2 : Int) := by rw [IntKind.wrap_i64]; omega
  have w3' : IntKind.i64.wrap (n3 : Int) = (n3 : Int) := by rw [IntKind.wrap_i64]; omega
  have w4' : IntKind.i64.wrap (m1 : Int) = (m1 : Int) := by rw [IntKind.wrap_i64]; omega
  have w5' : IntKind.i64.wrap (m2 : Int) = (m2 : Int) := by rw [IntKind.wrap_i64]; omega
  have t0 : (nn : Int) < ((nn + 4 : Nat) : Int) := by omega
  have t1 : (n1 : Int) < ((nn + 4 : Nat) : Int) := by omega
  have t2 : (n2 : Int) < ((nn + 4 : Nat) : Int) := by omega
  have t3 : (n3 : Int) < ((nn + 4 : Nat) : Int) := by omega
  have t0' : (nn : Int) < (nn : Int) + 4 := by omega
  have t1' : (n1 : Int) < (nn : Int) + 4 := by omega
  have t2' : (n2 : Int) < (nn : Int) + 4 := by omega
  have t3' : (n3 : Int) < (nn : Int) + 4 := by omega
  have t4 : (mm : Int) < ((mm + 3 : Nat) : Int) := by omega
  have t5 : (m1 : Int) < ((mm + 3 : Nat) : Int) := by omega
  have t6 : (m2 : Int) < ((mm + 3 : Nat) : Int) := by omega
  have t4' : (mm : Int) < (mm : Int) + 3 := by omega
  have t5' : (m1 : Int) < (mm : Int) + 3 := by omega
  have t6' : (m2 : Int) < (mm : Int) + 3 := by omega
  clear hc7 hc8 hn1' hn2' hn3' hm1' hm2'
  go_upto_region 32 with fail
  clear i0 i1 i2 i3 j0 j1 j2 p1 p2 p3 p4 p5 w1 w2' w3' w4' w5' t0 t1 t2 t3 t0' t1' t2' t3' t4 t5 t6 t4' t5' t6'
  have cvw := HWd5.out.conv
  have cvl := HLw5.out.conv
  rw [strB_app, ← HS.out.1] at cvw
  rw [strB_app, ← HS.out.2.1] at cvl
  have z1 : S1.size ≤ 100000 := by rw [HS.out.1, strB_size]; have := lenC_le HBA5.out.fo; rw [← ly_len] at this; exact this
  have z2 : S2.size ≤ 100000 := by rw [HS.out.2.1, strB_size]; have := lenC_le HBA5.out.fp; rw [← ly_len] at this; exact this
  have es : strB [11, 12, 13] = ⟨#[11, 12, 13]⟩ := rfl
  rw [es] at cvw cvl
  have lmo : Mo.length = 13 := HBA5.out.co.len
  have lmp : Mp.length = 13 := HBA5.out.cp.len
  clear es
  go_upto_region 34 with fail
  clear cvw cvl
  have HLO := hid (ld41 HBA5.out.xo.range lmo)
  have mk5 := hid True.intro
  go_upto_region 36 with (first
    | ((with_reducible refine ld_arm HLO.out ?_ ?_); (· rfl)) | ((with_reducible refine ld_arm HLP.out ?_ ?_); (· rfl))
    | (clear mk5; go_at_call 15; refine (bytes_ok Mo o _ HBA5.out.co HBA5.out.fo).mono ?_; rintro e w6 ⟨a6, n6, c6, rfl, hown6, hb6⟩; have HA6 := hid hown6.read; have HB6 := hid hb6; have HBA6 := hid (HBA5.out.later hb6); have HLP := hid (ld41 HBA6.out.xp.range lmp); clear hown6 hb6; have mk6 := hid True.intro)
    | (clear mk6; go_at_call 15; refine (bytes_ok Mp p _ HBA6.out.cp HBA6.out.fp).mono ?_; rintro e w7 ⟨a7, n7, c7, rfl, hown7, hb7⟩; have HG7 := hid hown7.read; have HA7 := hid (HA6.out.later hb7); have HB7 := hid (below_call HB6.out hb7); have HBA7 := hid (HBA6.out.later hb7); clear hown7 hb7; have mk7 := hid True.intro))
  have H297 := hid (H29.out.later HB7.out)
  have hR9 := HBA7.out.rr
  rw [HNN.out, HM9.out] at hR9
  have HR9 := hid hR9
  have HLR := hid (ld30 H297.out.range rfl)
  clear hR9
  go_cut [30] from 37 (fun s W' => ∃ a n c, s = .slice a n c ∧ Row W' a n c (rly 5 (rpO o)) ∧ Below w7.heap.size w7 W')
  case first =>
    go_wp2_with (first
      | ((with_reducible refine ld_arm HLR.out ?_ ?_); (· rfl))
      | (go_at_call 10; refine (answer_ok 5 (rC (rpO o) ⟨some ⟨g7, 0, none⟩, m9, rc⟩) (rpO o) _ HR9.out (rpO_fm o)).mono ?_; rintro e w8 ⟨a8, n8, c8, rfl, hown8, hb8⟩))
    go_meet
    exact ⟨a8, n8, c8, rfl, hown8.read, hb8⟩
  case rest =>
    obtain ⟨a8, n8, c8, rfl, hr8, hb8⟩ := hcut
    have HB8 := hid (below_call HB7.out hb8)
    first | go_upon | go_back | go_step
    refine fr_end (HBA7.out.later hb8) HNN.out HMM.out b21 b25 L21 L25 (H21.out.later HB8.out) (H25.out.later HB8.out) HLN.out.1.1 HLN.out.2.2.1.1 (by have := HOR.out; have := HS7.out; omega) S1 S2 S3 a6 a7 a8 n6 c6 n7 c7 n8 c8 (HA7.out.later hb8) (HG7.out.later hb8) hr8 HS.out.2.2 HS.out.1 HS.out.2.1 ⟨HA6.out.small, HG7.out.small⟩ ?_
    intro w' hW
    intros
    exact HK.out _ hW ..
end Go.Proofs.Ytaffgoacbiedlaa
