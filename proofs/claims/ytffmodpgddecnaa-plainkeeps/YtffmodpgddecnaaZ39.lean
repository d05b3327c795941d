import Derived.Test.YtffmodpgddecnaaZ37
import Derived.Test.YtffmodpgddecnaaZ38
namespace Go.Proofs.Ytffmodpgddecnaa.V.E
open Go.RowKit Go.Maps
open Go.Proofs.Ytffmodpgddecnaa.H (B64 Cp)
set_option linter.unusedVariables false
set_option linter.unusedSimpArgs false
theorem szWd (w : World) : (sizeOf 38).run Try.prog w = .ok 2 w := by
  obtain ⟨i, hi, hz0, hz1, hz2⟩ := info_parts infoW
  simp [sizeOf, typeInfo, hi, hz1]
set_option maxRecDepth 100000 in
theorem undWd : Try.prog.underlying 24 = some (.slice (Try.prog.elem 24)) := Try.underlying24
theorem elWd : Try.prog.elem 24 = 38 := by kernel_rfl
theorem sliceWd_h (w : World) (a : Option Addr) (n c i : Nat) (h : i ≤ c) : (Instr.sliceAt 24 (.slice a n c) none (some (.int .i64 (i : Int))) none).run Try.prog w = .ok (.slice a i c) w := by
  rw [run_sliceAt_slice _ _ _ _ _ _ undWd, run_slice_h _ _ _ _ _ undWd _ _ (by omega) (by omega), elWd, szWd]
  simp [sliced]
  cases a <;> simp [Addr.add]
section
variable {w y : World}
theorem given_row {a : Option Addr} {n cap : Nat} {f : Nat → Nat} (h : D.Ws w a n cap f) (hn : n ≤ 4096) :
    ∃ a1 c1 w1 a2 c2 w2, (Builtin.append_ #[24, 24] 24 #[.slice (some ⟨w.heap.size, 0, none⟩) 0 0, .slice a n cap]).run Try.prog (w.alloc (Obj.cells #[] 38)) = .ok (.slice a1 n c1) w1 ∧
      (Builtin.append_ #[24, 24] 24 #[.slice a1 n c1, .slice (some ⟨w1.heap.size, 0, none⟩) 1 1]).run Try.prog (w1.alloc (Obj.cells #[.int .u64 0, .int .u64 77] 38)) = .ok (.slice a2 (n + 1) c2) w2 ∧
      Ow w2 w.heap.size 38 2 a2 (n + 1) c2 (D.wvs f n ++ [.int .u64 0, .int .u64 77]) ∧ Below w.heap.size w w2 := by
  have hB := below1 w (Obj.cells #[] 38)
  have hO := ow_empty w 38 2
  obtain ⟨a1, c1, w1, hr1, hO1, hG1⟩ := append_k 24 38 _ 2 16 Try.underlying24 info31 rfl (by omega) (by omega) hO (Ws.cr (h.later hB)) hB.size (by omega)
  rw [Nat.zero_add] at hr1 hO1
  rw [List.nil_append] at hO1
  have hb1 : Below w.heap.size w w1 := But.below hB hG1.but (fun k hk => (hO.blk k hk).1)
  have hcr := Cr.lit w1 38 [.int .u64 0, .int .u64 77] (fun u hu => by simp only [List.mem_cons, List.not_mem_nil, or_false] at hu; rcases hu with h | h <;> (rw [h]; rfl))
  have hal : Below w1.heap.size w1 (w1.alloc (Obj.cells [.int .u64 0, .int .u64 77].toArray 38)) := below1 _ _
  obtain ⟨a2, c2, w2, hr2, hO2, hG2⟩ := append_k 24 38 _ 2 16 Try.underlying24 info31 rfl (by omega) (by omega) (Ow.later hO1 hal) hcr (Nat.le_trans hb1.size hal.size) (by omega)
  exact ⟨a1, c1, w1, a2, c2, w2, hr1, hr2, hO2, But.below (below_call hb1 hal) hG2.but (fun k hk => (Ow.blk (show Ow w1 w.heap.size 38 2 a1 n c1 _ from hO1) k hk).1)⟩
theorem given_ws {base : Nat} {a : Option Addr} {n c : Nat} {f : Nat → Nat} (h : Ow w base 38 2 a (n + 1) c (D.wvs f n ++ [.int .u64 0, .int .u64 77])) (hs : ∀ i, f i < B64 * B64) : ∃ g, a = some ⟨g, 0, none⟩ ∧ D.Ws w a n c f ∧ w.cell? ⟨g, n * 2 + 1, none⟩ = some (.int .u64 77) ∧ n + 1 ≤ c := by
  obtain ⟨g, e, hc⟩ := Ow.at_ h (by omega)
  have hcap : n + 1 ≤ c := by
    rcases h.form with ⟨h1, _⟩ | ⟨_, _, _, h3⟩
    · rw [h1] at e; cases e
    · exact h3
  refine ⟨g, e, ⟨by omega, fun h1 => (by rw [h1] at e; cases e), fun x hx j u hu => ?_, hs⟩, hc _ _ ?_, hcap⟩
  · rw [e] at hx
    cases hx
    rw [addr_add0]
    refine hc _ _ ?_
    rw [List.getElem?_append_left (List.getElem?_eq_some_iff.1 hu).1]
    exact hu
  · rw [List.getElem?_append_right (by rw [D.wvs_length]; omega), D.wvs_length, show n * 2 + 1 - n * 2 = 1 by omega]
    rfl
set_option maxRecDepth 1000000 in
set_option maxHeartbeats 8000000 in
theorem given_set {u0 u1 u2 u3 u4 u5 u6 u8 u9 u10 u11 u13 u14 u15 u16 u17 u18 u19 u20 u21 u22 u23 u24 u25 u26 u27 u28 u29 u30 u31 u32 u33 u34 u35 u36 u37 u38 u39 u40 u41 u42 u43 u44 u45 u46 u47 u48 u49 u50 u51 u52 u53 u54 u55 u56 u57 u58 u59 u60 u61 u62 u63 u64 u65 u66 u67 u68 u69 u70 u71 u72 u73 u74 u75 u76 u77 u78 u79 u80 u81 u82 u83 u84 u85 u86 u87 u88 u89 u90 u91 u92 u93 u94 u95 u96 u97 u98 u99 u100 u101 u102 u103 u104 u105 u106 u107 u108 u109 u110 u111 u112 u113 u114 u115 u116 u117 u118 u119 u120 u121 u122 u123 u124 u125 u126 u127 u128 u129 u130 u131 u132 u133 u134 u135 u136 u137 u138 u139 u140 u141 u142 u143 u144 u145 u146 u147 u148 u149 u150 u151 u152 u153 u154 u155 u156 u157 u158 u159 u160 u161 u162 u163 u164 u165 u166 u167 u168 u169 u170 u171 u172 u173 u174 u175 u176 u177 u178 u179 u180 u181 u182 u183 u184 u185 u186 u187 u188 u189 u190 u191 u192 u193 u194 u195 u196 u197 u198 u199 u200 u201 u202 u203 u204 u205 u206 u207 u208 u209 u210 u211 u212 u213 u214 u215 u216 u217 u218 u219 u220 u221 u222 u223 u224 u225 u226 u227 u228 u229 u230 u231 u232 u233 u234 u235 u236 u237 u238 u239 u240 u241 u242 u243 u244 u245 u246 u247 u248 u249 u250 u251 u252 u253 u254 u255 u256 u257 u258 u259 u260 u261 u262 u263 u264 u265 u266 u267 u268 u269 u270 u271 u272 u273 u274 u275 u276 u277 u278 u279 u280 u281 u282 u283 u284 u285 u286 u287 u288 u289 u290 u291 u292 u293 u294 u295 u296 u297 u298 u299 u300 u301 u302 u303 u304 u305 u306 u307 u308 u309 u310 u311 u312 u313 u314 u315 u316 u317 u318 u319 u320 u321 u322 u323 u324 u325 u326 u327 u328 u329 u330 u331 u332 u333 u334 u335 u336 u337 u338 u339 u340 u341 u342 u343 u344 u345 u346 u347 u348 u349 u350 u351 u352 u353 u354 u355 u356 u357 u358 u359 u360 u361 u362 u363 u364 u365 u366 u367 u368 u369 u370 u371 u372 u373 u374 u375 u376 u377 u378 u379 u380 u381 u382 u383 u384 u385 u386 u387 u388 u389 u390 u391 u392 u393 u394 u395 u396 u397 u398 u399 u400 u401 u402 u403 u404 u405 u406 u407 u408 u409 u410 u411 u412 u413 u414 u415 u416 u417 u418 u419 u420 u421 u422 u423 u424 u425 u426 u427 : Value} {Qx : Exit → Act → World → Prop} {base : Nat} {a : Option Addr} {n c : Nat} {L : List Value} (hO : Ow y base 38 2 a n c L) (hn : n ≤ 1048576)
    (hK : ∀ (w' : World), But (Blk a) y w' → ∀ (v12 v90 v91 v92 v93 v94 v95 v96 v97 v98 v99 : Value), Qx .normal ⟨List.toArray (u0 :: u1 :: u2 :: u3 :: u4 :: u5 :: u6 :: .slice a n c :: u8 :: u9 :: u10 :: u11 :: v12 :: u13 :: u14 :: u15 :: u16 :: u17 :: u18 :: u19 :: u20 :: u21 :: u22 :: u23 :: u24 :: u25 :: u26 :: u27 :: u28 :: u29 :: u30 :: u31 :: u32 :: u33 :: u34 :: u35 :: u36 :: u37 :: u38 :: u39 :: u40 :: u41 :: u42 :: u43 :: u44 :: u45 :: u46 :: u47 :: u48 :: u49 :: u50 :: u51 :: u52 :: u53 :: u54 :: u55 :: u56 :: u57 :: u58 :: u59 :: u60 :: u61 :: u62 :: u63 :: u64 :: u65 :: u66 :: u67 :: u68 :: u69 :: u70 :: u71 :: u72 :: u73 :: u74 :: u75 :: u76 :: u77 :: u78 :: u79 :: u80 :: u81 :: u82 :: u83 :: u84 :: u85 :: u86 :: u87 :: u88 :: u89 :: v90 :: v91 :: v92 :: v93 :: v94 :: v95 :: v96 :: v97 :: v98 :: v99 :: u100 :: u101 :: u102 :: u103 :: u104 :: u105 :: u106 :: u107 :: u108 :: u109 :: u110 :: u111 :: u112 :: u113 :: u114 :: u115 :: u116 :: u117 :: u118 :: u119 :: u120 :: u121 :: u122 :: u123 :: u124 :: u125 :: u126 :: u127 :: u128 :: u129 :: u130 :: u131 :: u132 :: u133 :: u134 :: u135 :: u136 :: u137 :: u138 :: u139 :: u140 :: u141 :: u142 :: u143 :: u144 :: u145 :: u146 :: u147 :: u148 :: u149 :: u150 :: u151 :: u152 :: u153 :: u154 :: u155 :: u156 :: u157 :: u158 :: u159 :: u160 :: u161 :: u162 :: u163 :: u164 :: u165 :: u166 :: u167 :: u168 :: u169 :: u170 :: u171 :: u172 :: u173 :: u174 :: u175 :: u176 :: u177 :: u178 :: u179 :: u180 :: u181 :: u182 :: u183 :: u184 :: u185 :: u186 :: u187 :: u188 :: u189 :: u190 :: u191 :: u192 :: u193 :: u194 :: u195 :: u196 :: u197 :: u198 :: u199 :: u200 :: u201 :: u202 :: u203 :: u204 :: u205 :: u206 :: u207 :: u208 :: u209 :: u210 :: u211 :: u212 :: u213 :: u214 :: u215 :: u216 :: u217 :: u218 :: u219 :: u220 :: u221 :: u222 :: u223 :: u224 :: u225 :: u226 :: u227 :: u228 :: u229 :: u230 :: u231 :: u232 :: u233 :: u234 :: u235 :: u236 :: u237 :: u238 :: u239 :: u240 :: u241 :: u242 :: u243 :: u244 :: u245 :: u246 :: u247 :: u248 :: u249 :: u250 :: u251 :: u252 :: u253 :: u254 :: u255 :: u256 :: u257 :: u258 :: u259 :: u260 :: u261 :: u262 :: u263 :: u264 :: u265 :: u266 :: u267 :: u268 :: u269 :: u270 :: u271 :: u272 :: u273 :: u274 :: u275 :: u276 :: u277 :: u278 :: u279 :: u280 :: u281 :: u282 :: u283 :: u284 :: u285 :: u286 :: u287 :: u288 :: u289 :: u290 :: u291 :: u292 :: u293 :: u294 :: u295 :: u296 :: u297 :: u298 :: u299 :: u300 :: u301 :: u302 :: u303 :: u304 :: u305 :: u306 :: u307 :: u308 :: u309 :: u310 :: u311 :: u312 :: u313 :: u314 :: u315 :: u316 :: u317 :: u318 :: u319 :: u320 :: u321 :: u322 :: u323 :: u324 :: u325 :: u326 :: u327 :: u328 :: u329 :: u330 :: u331 :: u332 :: u333 :: u334 :: u335 :: u336 :: u337 :: u338 :: u339 :: u340 :: u341 :: u342 :: u343 :: u344 :: u345 :: u346 :: u347 :: u348 :: u349 :: u350 :: u351 :: u352 :: u353 :: u354 :: u355 :: u356 :: u357 :: u358 :: u359 :: u360 :: u361 :: u362 :: u363 :: u364 :: u365 :: u366 :: u367 :: u368 :: u369 :: u370 :: u371 :: u372 :: u373 :: u374 :: u375 :: u376 :: u377 :: u378 :: u379 :: u380 :: u381 :: u382 :: u383 :: u384 :: u385 :: u386 :: u387 :: u388 :: u389 :: u390 :: u391 :: u392 :: u393 :: u394 :: u395 :: u396 :: u397 :: u398 :: u399 :: u400 :: u401 :: u402 :: u403 :: u404 :: u405 :: u406 :: u407 :: u408 :: u409 :: u410 :: u411 :: u412 :: u413 :: u414 :: u415 :: u416 :: u417 :: u418 :: u419 :: u420 :: u421 :: u422 :: u423 :: u424 :: u425 :: u426 :: u427 :: []), []⟩ w') :
    Code.wp Try.prog (pR (pL (rs 7 (Try.f4.body.getD .skip)))) Qx ⟨List.toArray (u0 :: u1 :: u2 :: u3 :: u4 :: u5 :: u6 :: .slice a n c :: u8 :: u9 :: u10 :: u11 :: .int .i64 0 :: u13 :: u14 :: u15 :: u16 :: u17 :: u18 :: u19 :: u20 :: u21 :: u22 :: u23 :: u24 :: u25 :: u26 :: u27 :: u28 :: u29 :: u30 :: u31 :: u32 :: u33 :: u34 :: u35 :: u36 :: u37 :: u38 :: u39 :: u40 :: u41 :: u42 :: u43 :: u44 :: u45 :: u46 :: u47 :: u48 :: u49 :: u50 :: u51 :: u52 :: u53 :: u54 :: u55 :: u56 :: u57 :: u58 :: u59 :: u60 :: u61 :: u62 :: u63 :: u64 :: u65 :: u66 :: u67 :: u68 :: u69 :: u70 :: u71 :: u72 :: u73 :: u74 :: u75 :: u76 :: u77 :: u78 :: u79 :: u80 :: u81 :: u82 :: u83 :: u84 :: u85 :: u86 :: u87 :: u88 :: u89 :: u90 :: u91 :: u92 :: u93 :: u94 :: u95 :: u96 :: u97 :: u98 :: u99 :: u100 :: u101 :: u102 :: u103 :: u104 :: u105 :: u106 :: u107 :: u108 :: u109 :: u110 :: u111 :: u112 :: u113 :: u114 :: u115 :: u116 :: u117 :: u118 :: u119 :: u120 :: u121 :: u122 :: u123 :: u124 :: u125 :: u126 :: u127 :: u128 :: u129 :: u130 :: u131 :: u132 :: u133 :: u134 :: u135 :: u136 :: u137 :: u138 :: u139 :: u140 :: u141 :: u142 :: u143 :: u144 :: u145 :: u146 :: u147 :: u148 :: u149 :: u150 :: u151 :: u152 :: u153 :: u154 :: u155 :: u156 :: u157 :: u158 :: u159 :: u160 :: u161 :: u162 :: u163 :: u164 :: u165 :: u166 :: u167 :: u168 :: u169 :: u170 :: u171 :: u172 :: u173 :: u174 :: u175 :: u176 :: u177 :: u178 :: u179 :: u180 :: u181 :: u182 :: u183 :: u184 :: u185 :: u186 :: u187 :: u188 :: u189 :: u190 :: u191 :: u192 :: u193 :: u194 :: u195 :: u196 :: u197 :: u198 :: u199 :: u200 :: u201 :: u202 :: u203 :: u204 :: u205 :: u206 :: u207 :: u208 :: u209 :: u210 :: u211 :: u212 :: u213 :: u214 :: u215 :: u216 :: u217 :: u218 :: u219 :: u220 :: u221 :: u222 :: u223 :: u224 :: u225 :: u226 :: u227 :: u228 :: u229 :: u230 :: u231 :: u232 :: u233 :: u234 :: u235 :: u236 :: u237 :: u238 :: u239 :: u240 :: u241 :: u242 :: u243 :: u244 :: u245 :: u246 :: u247 :: u248 :: u249 :: u250 :: u251 :: u252 :: u253 :: u254 :: u255 :: u256 :: u257 :: u258 :: u259 :: u260 :: u261 :: u262 :: u263 :: u264 :: u265 :: u266 :: u267 :: u268 :: u269 :: u270 :: u271 :: u272 :: u273 :: u274 :: u275 :: u276 :: u277 :: u278 :: u279 :: u280 :: u281 :: u282 :: u283 :: u284 :: u285 :: u286 :: u287 :: u288 :: u289 :: u290 :: u291 :: u292 :: u293 :: u294 :: u295 :: u296 :: u297 :: u298 :: u299 :: u300 :: u301 :: u302 :: u303 :: u304 :: u305 :: u306 :: u307 :: u308 :: u309 :: u310 :: u311 :: u312 :: u313 :: u314 :: u315 :: u316 :: u317 :: u318 :: u319 :: u320 :: u321 :: u322 :: u323 :: u324 :: u325 :: u326 :: u327 :: u328 :: u329 :: u330 :: u331 :: u332 :: u333 :: u334 :: u335 :: u336 :: u337 :: u338 :: u339 :: u340 :: u341 :: u342 :: u343 :: u344 :: u345 :: u346 :: u347 :: u348 :: u349 :: u350 :: u351 :: u352 :: u353 :: u354 :: u355 :: u356 :: u357 :: u358 :: u359 :: u360 :: u361 :: u362 :: u363 :: u364 :: u365 :: u366 :: u367 :: u368 :: u369 :: u370 :: u371 :: u372 :: u373 :: u374 :: u375 :: u376 :: u377 :: u378 :: u379 :: u380 :: u381 :: u382 :: u383 :: u384 :: u385 :: u386 :: u387 :: u388 :: u389 :: u390 :: u391 :: u392 :: u393 :: u394 :: u395 :: u396 :: u397 :: u398 :: u399 :: u400 :: u401 :: u402 :: u403 :: u404 :: u405 :: u406 :: u407 :: u408 :: u409 :: u410 :: u411 :: u412 :: u413 :: u414 :: u415 :: u416 :: u417 :: u418 :: u419 :: u420 :: u421 :: u422 :: u423 :: u424 :: u425 :: u426 :: u427 :: []), []⟩ y := by
  conv => arg 2; whnf
  have HO := hid hO
  have HK := hid hK
  clear hO hK
  go_upto_region 9 with fail
  go_loopw [12] (OwR y base 38 2 a n c) (fun v _ => n - S.ivN v)
  case atStart => exact ⟨0, _, rfl, Nat.zero_le _, HO.out, But.refl _ _⟩
  case round =>
    obtain ⟨j, L, rfl, hj, hL, hb⟩ := hrel
    have HL := hid hL
    have HB := hid hb
    clear hL hb
    by_cases hlt : j < n
    · have hd : decide ((j : Int) < (n : Int)) = true := decide_eq_true (by omega)
      obtain ⟨g, rfl, -⟩ := Ow.at_ HL.out (by omega)
      obtain ⟨v0, hc0, hf0⟩ := ow_cell HL.out (q := j * 2) (by omega)
      obtain ⟨v1, hc1, hf1⟩ := ow_cell HL.out (q := j * 2 + 1) (by omega)
      go_upto_region 10 with fail
      clear hc0 hf0 hc1 hf1
      have hb2 : But (Blk (some ⟨g, 0, none⟩)) y (wr.setCell ⟨g, j * 2, none⟩ (.int .u64 3)) := HB.out.trans ((But.refl _ wr).setCell (p := ⟨g, j * 2, none⟩) (blk_some g) _)
      have hfin := OwR.next (q := j * 2 + 1) (Ow.set1 HL.out (j * 2) (.int .u64 3)) hb2 hlt (.int .u64 0)
      have HFi := hid hfin
      clear hfin hb2
      go_wp2
      exact ⟨HFi.out, by simp [S.ivN]; omega⟩
    · obtain rfl : j = n := by omega
      have hd : decide ((j : Int) < (j : Int)) = false := by simp
      go_wp2
      refine HK.out _ HB.out ..
end
end Go.Proofs.Ytffmodpgddecnaa.V.E
