import Derived.Test.YtnjadfgfpebkdaaGreatW1
import Derived.Test.YtnjadfgfpebkdaaGreatUA
import Derived.Test.YtnjadfgfpebkdaaGreatFA
import Derived.Test.YtnjadfgfpebkdaaGreatMY
namespace Go.Proofs.YtnjadfgfpebkdaaGreat.D
open Go.RowKit
open Go.Proofs.YtnjadfgfpebkdaaGreat.H (B64 Cp cEq neqC)
set_option linter.unusedVariables false
set_option linter.unusedSimpArgs false
/-- The blocks from one on. -/
def From (B k : Nat) : Prop := B ≤ k
/-- A token more in the list that is left, and its place. -/
theorem left_more {v1 : World} {B1 B2 pb n m c20 i : Nat} {a20 : Option Addr} {L : List Tok} {P : List Int} {e1 : Int} {e2 e3 : Nat} {rt qq : Int} (hP : Ow v1 B1 3 1 (some ⟨pb, 0, none⟩) n n (ints P)) (hL : Ow v1 B2 47 5 a20 m c20 (toks L)) (hB : B1 ≤ pb ∧ pb < B2 ∧ B2 ≤ v1.heap.size) (hm : m ≤ 1024) (tb : Nat) (htb : tb < v1.heap.size) :
    ∃ a9 c9 v5, (Builtin.append_ #[44, 44] 44 #[.slice a20 m c20, .slice (some ⟨(v1.setCell ⟨pb, i, none⟩ (.int .i64 (m : Int))).heap.size, 0, none⟩) 1 1]).run Tryz.prog ((v1.setCell ⟨pb, i, none⟩ (.int .i64 (m : Int))).alloc (Obj.cells #[.int .i64 e1, .int .u64 (e2 : Int), .int .u64 (e3 : Int), .int .i64 rt, .int .i64 qq] 47)) = .ok (.slice a9 (m + 1) c9) v5 ∧ Ow v5 B1 3 1 (some ⟨pb, 0, none⟩) n n (ints (P.set i (m : Int))) ∧ Ow v5 B2 47 5 a9 (m + 1) c9 (toks (L ++ [((e1, e2, e3), rt, qq)])) ∧ But (From B1) v1 v5 := by
  have hb1 : But (· = pb) v1 (v1.setCell ⟨pb, i, none⟩ (.int .i64 (m : Int))) := (But.refl (· = pb) v1).setCell (p := ⟨pb, i, none⟩) rfl _
  have hP2 := hP.set1 i (.int .i64 (m : Int))
  have hL2 := hL.but hb1 (fun j hj e => by have := (hL.blk j hj).1; omega)
  obtain ⟨v3, hv3⟩ : ∃ v3, v3 = v1.setCell ⟨pb, i, none⟩ (.int .i64 (m : Int)) := ⟨_, rfl⟩
  rw [← hv3] at hb1 hP2 hL2 ⊢
  have hb2 := below1 v3 (Obj.cells (encT ((e1, e2, e3), rt, qq)).toArray 47)
  have hcr := Cr.lit v3 47 (encT ((e1, e2, e3), rt, qq)) (encT_one _)
  have s1 := hb1.size
  obtain ⟨a9, c9, v5, hrun, hO5, hG5⟩ := append_k 44 47 _ 5 40 Tryz.underlying44 info47 rfl (by omega) (by omega) (hL2.later hb2) hcr (by have := hb2.size; omega) (by omega)
  refine ⟨a9, c9, v5, hrun, ?_, ?_, ?_⟩
  · have h1 := (hP2.later hb2).but hG5.but (fun j hj e => by
      have h2 := (hL2.blk j e).1
      obtain ⟨y, hy, hyb⟩ := hj
      cases hy
      have : pb = j := hyb
      omega)
    have e : ints (P.set i (m : Int)) = (ints P).set i (.int .i64 (m : Int)) := by unfold ints; rw [List.map_set]
    rw [e]; exact h1
  · rw [toks_snoc]; exact hO5
  · refine (hb1.mono (fun k hk => by show B1 ≤ k; omega)).trans ((But.of hb2).trans (hG5.but.mono (fun k hk => by have := (hL2.blk k hk).1; show B1 ≤ k; omega)))
set_option maxRecDepth 1000000 in
set_option maxHeartbeats 4000000 in
theorem rk_f {u0 u1 u2 u3 u4 u5 u6 u8 u9 u10 u11 u12 u15 u17 u19 u24 u25 u26 u27 u28 u29 u30 u31 u32 u33 u34 u35 u36 u37 u38 u39 u40 u41 u42 u43 u44 u45 u46 u47 u48 u49 u50 u51 u52 u53 u54 u55 u56 u57 u58 u59 u60 u61 u62 u63 u64 u65 u66 u67 u68 u69 u70 u71 u72 u73 u74 u75 u76 u77 u78 u79 u80 u81 u82 u83 u84 u85 u86 u87 u88 u89 u90 u91 u92 u93 u94 u95 u96 u97 u98 u99 u100 u101 u102 u103 u104 u105 u106 u107 u108 u109 u110 u111 u112 u113 u114 u115 u116 u117 u118 u119 u120 u121 u122 u123 u124 u125 u126 u127 u128 u129 u130 u131 u132 u133 u134 u135 u136 u137 u138 u139 u140 u141 u142 u143 u144 u145 u146 u147 u148 u149 u150 u151 u152 u153 u154 u155 u156 u157 u158 u159 u160 u161 u162 u163 u164 u165 u166 u167 u168 u169 u170 u171 u172 u173 u174 u175 u176 u177 u178 u179 u180 u181 u182 u183 u184 u185 u186 u187 u188 u189 u190 u191 u192 u193 u194 u195 u196 u197 u198 u199 u200 u201 u202 u203 u204 u205 u206 u207 u208 u209 u210 u211 u212 u213 u214 u215 u216 u217 u218 u219 u220 u221 u222 u223 u224 u225 u226 u227 u228 u229 u230 u231 u232 u233 u234 u235 u236 u237 u238 u239 u240 u241 u242 u243 u244 u245 u246 u247 u248 u249 u250 u251 u252 u253 u254 u255 u256 u257 u258 u259 u260 u261 u262 u263 u264 u265 u266 u267 u268 u269 u270 u271 u272 u273 u274 u275 u276 u277 u278 u279 u280 u281 u282 u283 u284 u285 u286 u287 u288 u289 u290 u291 u292 u293 u294 u295 u296 u297 u298 u299 u300 u301 u302 u303 u304 u305 u306 u307 u308 u309 u310 u311 u312 u313 u314 u315 u316 u317 u318 u319 u320 u321 u322 u323 u324 u325 u326 u327 u328 u329 u330 u331 u332 u333 u334 u335 u336 u337 u338 u339 u340 u341 u342 u343 u344 u345 u346 u347 u348 u349 u350 u351 u352 u353 u354 u355 u356 u357 u358 u359 u360 u361 u362 u363 u364 : Value} {Qx : Exit → Act → World → Prop} {H : Hd} {s d : Sta} {T : Nat} {N : Nat → Prop} (b13 o13 n c13 at_ kn c18 m c20 pb k i B1 B2 : Nat) (a18 a20 : Option Addr) (e1 : Int) (e2 e3 : Nat) (rt pp qq : Int) (L : List Tok) (P : List Int) (w : World) (hin : i < n) (hn : n ≤ 1024) (hm : m ≤ 1024) (hund : Calls Tryz.prog 16 #[.slice (some ⟨b13, o13, none⟩) n c13, .int .i64 (i : Int), .int .i64 (at_ : Int)] w fun e w' => e = .returned (.bool false) ∧ w' = w) (hO : Cet w b13 (o13 + i * 5) ((e1, e2, e3), rt, pp)) (hP : Ow w B1 3 1 (some ⟨pb, 0, none⟩) n n (ints P)) (hL : Ow w B2 47 5 a20 m c20 (toks L)) (hB : B1 ≤ pb ∧ pb < B2 ∧ B2 ≤ w.heap.size) (hpp : (pp < 0 ∧ qq = pp) ∨ ∃ p : Nat, pp = (p : Int) ∧ p < n ∧ P[p]? = some qq)
    (hK : ∀ (a9 : Option Addr) (c9 : Nat) (w' : World), (Ow w' B1 3 1 (some ⟨pb, 0, none⟩) n n (ints (P.set i (m : Int))) ∧ Ow w' B2 47 5 a9 (m + 1) c9 (toks (L ++ [((e1, e2, e3), rt, qq)])) ∧ But (From B1) w w') → ∀ (v6 v24 v25 v26 v27 v28 v176 v177 v178 v179 v180 v181 v182 v183 v184 v185 v186 v187 v188 v189 v190 v191 v192 v193 v194 v195 v196 v197 v198 v199 v200 v201 v202 v203 v204 v205 v206 v207 v208 v209 v210 v211 v212 v213 v214 v215 v216 v217 v218 v219 v220 v221 v222 v223 v224 v225 v226 v227 v228 v229 v230 v231 v232 v233 v234 v235 v236 v237 v238 v239 v240 v241 v242 v243 v244 v245 v246 v247 v248 v249 v250 v251 v252 v253 v254 v255 v256 v257 v258 v259 v260 v261 v262 v263 v264 v265 v266 v267 : Value), Qx .normal ⟨List.toArray (u0 :: u1 :: u2 :: u3 :: u4 :: u5 :: v6 :: .pointer (some ⟨H.sb, 0, none⟩) :: u8 :: u9 :: u10 :: u11 :: u12 :: .slice (some ⟨b13, o13, none⟩) n c13 :: .int .i64 (at_ : Int) :: u15 :: .bool false :: u17 :: .slice a18 kn c18 :: u19 :: .slice a9 (m + 1) c9 :: .slice (some ⟨pb, 0, none⟩) n n :: .int .i64 (k : Int) :: .int .i64 ((i : Int) + 1) :: v24 :: v25 :: v26 :: v27 :: v28 :: u29 :: u30 :: u31 :: u32 :: u33 :: u34 :: u35 :: u36 :: u37 :: u38 :: u39 :: u40 :: u41 :: u42 :: u43 :: u44 :: u45 :: u46 :: u47 :: u48 :: u49 :: u50 :: u51 :: u52 :: u53 :: u54 :: u55 :: u56 :: u57 :: u58 :: u59 :: u60 :: u61 :: u62 :: u63 :: u64 :: u65 :: u66 :: u67 :: u68 :: u69 :: u70 :: u71 :: u72 :: u73 :: u74 :: u75 :: u76 :: u77 :: u78 :: u79 :: u80 :: u81 :: u82 :: u83 :: u84 :: u85 :: u86 :: u87 :: u88 :: u89 :: u90 :: u91 :: u92 :: u93 :: u94 :: u95 :: u96 :: u97 :: u98 :: u99 :: u100 :: u101 :: u102 :: u103 :: u104 :: u105 :: u106 :: u107 :: u108 :: u109 :: u110 :: u111 :: u112 :: u113 :: u114 :: u115 :: u116 :: u117 :: u118 :: u119 :: u120 :: u121 :: u122 :: u123 :: u124 :: u125 :: u126 :: u127 :: u128 :: u129 :: u130 :: u131 :: u132 :: u133 :: u134 :: u135 :: u136 :: u137 :: u138 :: u139 :: u140 :: u141 :: u142 :: u143 :: u144 :: u145 :: u146 :: u147 :: u148 :: u149 :: u150 :: u151 :: u152 :: u153 :: u154 :: u155 :: u156 :: u157 :: u158 :: u159 :: u160 :: u161 :: u162 :: u163 :: u164 :: u165 :: u166 :: u167 :: u168 :: u169 :: u170 :: u171 :: u172 :: u173 :: u174 :: u175 :: v176 :: v177 :: v178 :: v179 :: v180 :: v181 :: v182 :: v183 :: v184 :: v185 :: v186 :: v187 :: v188 :: v189 :: v190 :: v191 :: v192 :: v193 :: v194 :: v195 :: v196 :: v197 :: v198 :: v199 :: v200 :: v201 :: v202 :: v203 :: v204 :: v205 :: v206 :: v207 :: v208 :: v209 :: v210 :: v211 :: v212 :: v213 :: v214 :: v215 :: v216 :: v217 :: v218 :: v219 :: v220 :: v221 :: v222 :: v223 :: v224 :: v225 :: v226 :: v227 :: v228 :: v229 :: v230 :: v231 :: v232 :: v233 :: v234 :: v235 :: v236 :: v237 :: v238 :: v239 :: v240 :: v241 :: v242 :: v243 :: v244 :: v245 :: v246 :: v247 :: v248 :: v249 :: v250 :: v251 :: v252 :: v253 :: v254 :: v255 :: v256 :: v257 :: v258 :: v259 :: v260 :: v261 :: v262 :: v263 :: v264 :: v265 :: v266 :: v267 :: u268 :: u269 :: u270 :: u271 :: u272 :: u273 :: u274 :: u275 :: u276 :: u277 :: u278 :: u279 :: u280 :: u281 :: u282 :: u283 :: u284 :: u285 :: u286 :: u287 :: u288 :: u289 :: u290 :: u291 :: u292 :: u293 :: u294 :: u295 :: u296 :: u297 :: u298 :: u299 :: u300 :: u301 :: u302 :: u303 :: u304 :: u305 :: u306 :: u307 :: u308 :: u309 :: u310 :: u311 :: u312 :: u313 :: u314 :: u315 :: u316 :: u317 :: u318 :: u319 :: u320 :: u321 :: u322 :: u323 :: u324 :: u325 :: u326 :: u327 :: u328 :: u329 :: u330 :: u331 :: u332 :: u333 :: u334 :: u335 :: u336 :: u337 :: u338 :: u339 :: u340 :: u341 :: u342 :: u343 :: u344 :: u345 :: u346 :: u347 :: u348 :: u349 :: u350 :: u351 :: u352 :: u353 :: u354 :: u355 :: u356 :: u357 :: u358 :: u359 :: u360 :: u361 :: u362 :: u363 :: u364 :: []), []⟩ w') :
    Code.wp Tryz.prog (pI (pI (pR (el Tryz.f3.body 22)))) Qx ⟨List.toArray (u0 :: u1 :: u2 :: u3 :: u4 :: u5 :: u6 :: .pointer (some ⟨H.sb, 0, none⟩) :: u8 :: u9 :: u10 :: u11 :: u12 :: .slice (some ⟨b13, o13, none⟩) n c13 :: .int .i64 (at_ : Int) :: u15 :: .bool false :: u17 :: .slice a18 kn c18 :: u19 :: .slice a20 m c20 :: .slice (some ⟨pb, 0, none⟩) n n :: .int .i64 (k : Int) :: .int .i64 (i : Int) :: u24 :: u25 :: u26 :: u27 :: u28 :: u29 :: u30 :: u31 :: u32 :: u33 :: u34 :: u35 :: u36 :: u37 :: u38 :: u39 :: u40 :: u41 :: u42 :: u43 :: u44 :: u45 :: u46 :: u47 :: u48 :: u49 :: u50 :: u51 :: u52 :: u53 :: u54 :: u55 :: u56 :: u57 :: u58 :: u59 :: u60 :: u61 :: u62 :: u63 :: u64 :: u65 :: u66 :: u67 :: u68 :: u69 :: u70 :: u71 :: u72 :: u73 :: u74 :: u75 :: u76 :: u77 :: u78 :: u79 :: u80 :: u81 :: u82 :: u83 :: u84 :: u85 :: u86 :: u87 :: u88 :: u89 :: u90 :: u91 :: u92 :: u93 :: u94 :: u95 :: u96 :: u97 :: u98 :: u99 :: u100 :: u101 :: u102 :: u103 :: u104 :: u105 :: u106 :: u107 :: u108 :: u109 :: u110 :: u111 :: u112 :: u113 :: u114 :: u115 :: u116 :: u117 :: u118 :: u119 :: u120 :: u121 :: u122 :: u123 :: u124 :: u125 :: u126 :: u127 :: u128 :: u129 :: u130 :: u131 :: u132 :: u133 :: u134 :: u135 :: u136 :: u137 :: u138 :: u139 :: u140 :: u141 :: u142 :: u143 :: u144 :: u145 :: u146 :: u147 :: u148 :: u149 :: u150 :: u151 :: u152 :: u153 :: u154 :: u155 :: u156 :: u157 :: u158 :: u159 :: u160 :: u161 :: u162 :: u163 :: u164 :: u165 :: u166 :: u167 :: u168 :: u169 :: u170 :: u171 :: u172 :: u173 :: u174 :: u175 :: u176 :: u177 :: u178 :: u179 :: u180 :: u181 :: u182 :: u183 :: u184 :: u185 :: u186 :: u187 :: u188 :: u189 :: u190 :: u191 :: u192 :: u193 :: u194 :: u195 :: u196 :: u197 :: u198 :: u199 :: u200 :: u201 :: u202 :: u203 :: u204 :: u205 :: u206 :: u207 :: u208 :: u209 :: u210 :: u211 :: u212 :: u213 :: u214 :: u215 :: u216 :: u217 :: u218 :: u219 :: u220 :: u221 :: u222 :: u223 :: u224 :: u225 :: u226 :: u227 :: u228 :: u229 :: u230 :: u231 :: u232 :: u233 :: u234 :: u235 :: u236 :: u237 :: u238 :: u239 :: u240 :: u241 :: u242 :: u243 :: u244 :: u245 :: u246 :: u247 :: u248 :: u249 :: u250 :: u251 :: u252 :: u253 :: u254 :: u255 :: u256 :: u257 :: u258 :: u259 :: u260 :: u261 :: u262 :: u263 :: u264 :: u265 :: u266 :: u267 :: u268 :: u269 :: u270 :: u271 :: u272 :: u273 :: u274 :: u275 :: u276 :: u277 :: u278 :: u279 :: u280 :: u281 :: u282 :: u283 :: u284 :: u285 :: u286 :: u287 :: u288 :: u289 :: u290 :: u291 :: u292 :: u293 :: u294 :: u295 :: u296 :: u297 :: u298 :: u299 :: u300 :: u301 :: u302 :: u303 :: u304 :: u305 :: u306 :: u307 :: u308 :: u309 :: u310 :: u311 :: u312 :: u313 :: u314 :: u315 :: u316 :: u317 :: u318 :: u319 :: u320 :: u321 :: u322 :: u323 :: u324 :: u325 :: u326 :: u327 :: u328 :: u329 :: u330 :: u331 :: u332 :: u333 :: u334 :: u335 :: u336 :: u337 :: u338 :: u339 :: u340 :: u341 :: u342 :: u343 :: u344 :: u345 :: u346 :: u347 :: u348 :: u349 :: u350 :: u351 :: u352 :: u353 :: u354 :: u355 :: u356 :: u357 :: u358 :: u359 :: u360 :: u361 :: u362 :: u363 :: u364 :: []), []⟩ w := by
  conv => arg 2; whnf
  have HU := hid hund
  have HB := hid hB
  have HP := hid hP
  have HL := hid hL
  have HK := hid hK
  obtain ⟨x0, x1, x2, x3, x4⟩ := hO
  have hin2 : (i : Int) < (n : Int) := by omega
  have hi0 : (0 : Int) ≤ (i : Int) := by omega
  have hdi : decide ((i : Int) < (n : Int)) = true := decide_eq_true (by omega)
  have gi : IntKind.i64.wrap ((i : Int) + 1) = (i : Int) + 1 := by rw [IntKind.wrap_i64]; omega
  obtain ⟨v1, hv1⟩ : ∃ v1, v1 = w.alloc (Obj.cells #[.int .i64 e1, .int .u64 (e2 : Int), .int .u64 (e3 : Int), .int .i64 rt, .int .i64 pp] 47) := ⟨_, rfl⟩
  have hb1 : Below w.heap.size w v1 := by rw [hv1]; exact below1 _ _
  have hct : Cet v1 w.heap.size 0 ((e1, e2, e3), rt, pp) := by rw [hv1]; exact ⟨by simp [go_sem], by simp [go_sem], by simp [go_sem], by simp [go_sem], by simp [go_sem]⟩
  have hfr : v1.frozen? ⟨w.heap.size, 4, none⟩ = false := by rw [hv1]; simp [go_sem]
  have HB1 := hid hb1
  have HCt := hid hct
  have HFr := hid hfr
  have HLt : Hid (w.heap.size < v1.heap.size) := World.block_lt_of_cell? _ _ hct.c0
  have HPf : Hid (v1.frozen? ⟨pb, i, none⟩ = false ∧ ∃ u, v1.cell? ⟨pb, i, none⟩ = some u) := by
    have h1 := hP.later hb1
    refine ⟨?_, ?_⟩
    · rcases h1.form with ⟨e, _⟩ | ⟨g, e, hf, _⟩
      · cases e
      · cases e; exact hf i
    · obtain ⟨b', e, hc⟩ := h1.at_ (by omega)
      cases e
      have hlen : (ints P).length = n := by have := h1.1; rw [Nat.mul_one] at this; exact this
      exact ⟨_, hc i _ (List.getElem?_eq_getElem (by rw [hlen]; exact hin))⟩
  go_upto_region 48 with (first
    | (go_at_call 16; refine HU.out.mono ?_; rintro e w9 ⟨rfl, hw9⟩; obtain rfl := hw9.symm; clear hw9))
  go_upto_region 49 with fail
  rw [← hv1]
  clear hv1 hb1 hct hfr x0 x1 x2 x3 x4 hund hK hP hL
  have t4 := HCt.out.c4
  simp only [Nat.zero_add] at t4
  rcases hpp with ⟨hneg, hqq⟩ | ⟨p, hp1, hp2, hp3⟩
  · have hd : decide (pp ≥ 0) = false := decide_eq_false (by omega)
    have hd2 : decide ((0 : Int) ≤ pp) = false := decide_eq_false (by omega)
    have hd3 : ¬ (0 : Int) ≤ pp := by omega
    subst hqq
    obtain ⟨a9, c9, v5, hrun, r1, r2, r3⟩ := left_more (e1 := e1) (e2 := e2) (e3 := e3) (rt := rt) (qq := qq) (i := i) (HP.out.later HB1.out) (HL.out.later HB1.out) ⟨HB.out.1, HB.out.2.1, Nat.le_trans HB.out.2.2 HB1.out.size⟩ hm w.heap.size HLt.out
    have HR := hid (And.intro r1 (And.intro r2 ((But.of (S := From B1) HB1.out).trans r3)))
    have HRUN := hid hrun
    obtain ⟨f1, u1, f2⟩ := HPf.out
    have hne : ¬ (w.heap.size = pb) := by have := HB.out; omega
    have d0 : (v1.setCell ⟨pb, i, none⟩ (.int .i64 (m : Int))).cell? ⟨w.heap.size, 0, none⟩ = some (.int .i64 e1) := cell_but ((But.refl (· = pb) v1).setCell (p := ⟨pb, i, none⟩) rfl _) HCt.out.c0 hne
    have d1 : (v1.setCell ⟨pb, i, none⟩ (.int .i64 (m : Int))).cell? ⟨w.heap.size, 1, none⟩ = some (.int .u64 (e2 : Int)) := cell_but ((But.refl (· = pb) v1).setCell (p := ⟨pb, i, none⟩) rfl _) HCt.out.c1 hne
    have d2 : (v1.setCell ⟨pb, i, none⟩ (.int .i64 (m : Int))).cell? ⟨w.heap.size, 2, none⟩ = some (.int .u64 (e3 : Int)) := cell_but ((But.refl (· = pb) v1).setCell (p := ⟨pb, i, none⟩) rfl _) HCt.out.c2 hne
    have d3 : (v1.setCell ⟨pb, i, none⟩ (.int .i64 (m : Int))).cell? ⟨w.heap.size, 3, none⟩ = some (.int .i64 rt) := cell_but ((But.refl (· = pb) v1).setCell (p := ⟨pb, i, none⟩) rfl _) HCt.out.c3 hne
    have d4 : (v1.setCell ⟨pb, i, none⟩ (.int .i64 (m : Int))).cell? ⟨w.heap.size, 4, none⟩ = some (.int .i64 qq) := cell_but ((But.refl (· = pb) v1).setCell (p := ⟨pb, i, none⟩) rfl _) HCt.out.c4 hne
    clear r1 r2 r3 hrun hneg hne
    go_upto_region 51 with fail
    go_upto_region 52 with fail
    generalize v1.setCell ⟨pb, i, none⟩ (.int .i64 (m : Int)) = v3 at *
    go_wp2_with (first | (at_builtin; refine wpList_append_known rfl _ _ 44 rfl _ _ rfl rfl _ v5 HRUN.out ?_))
    exact HK.out _ _ _ HR.out ..
  · have hd : decide (pp ≥ 0) = true := decide_eq_true (by omega)
    have hd2 : decide ((0 : Int) ≤ pp) = true := decide_eq_true (by omega)
    have hpn : (p : Int) < (n : Int) := by omega
    have hp0 : (0 : Int) ≤ (p : Int) := by omega
    subst hp1
    have hpc : v1.cell? ⟨pb, p, none⟩ = some (.int .i64 qq) := by
      obtain ⟨b', e, hc⟩ := (HP.out.later HB1.out).at_ (by omega)
      cases e
      refine hc p _ ?_
      unfold ints
      rw [List.getElem?_map, hp3]; rfl
    have hf4 := HFr.out
    obtain ⟨v2, hv2⟩ : ∃ v2, v2 = v1.setCell ⟨w.heap.size, 4, none⟩ (.int .i64 qq) := ⟨_, rfl⟩
    have hb2 : But (· = w.heap.size) v1 v2 := by rw [hv2]; exact (But.refl (· = w.heap.size) v1).setCell (p := ⟨w.heap.size, 4, none⟩) rfl _
    have hct2 : Cet v2 w.heap.size 0 ((e1, e2, e3), rt, qq) := by
      rw [hv2]
      exact ⟨cell_ne HCt.out.c0 (by omega), cell_ne HCt.out.c1 (by omega), cell_ne HCt.out.c2 (by omega), cell_ne HCt.out.c3 (by omega), World.cell?_setCell_same _ _ _ HCt.out.c4⟩
    have hne : ¬ (w.heap.size = pb) := by have := HB.out; omega
    have hne2 : ¬ (pb = w.heap.size) := fun e => hne e.symm
    have hP2 := (HP.out.later HB1.out).but hb2 (fun j hj e => by obtain ⟨y, hy, hyb⟩ := hj; cases hy; exact hne2 (hyb.trans e))
    have hL2 := (HL.out.later HB1.out).but hb2 (fun j hj e => by have := (HL.out.blk j hj).2; omega)
    have f1 : v2.frozen? ⟨pb, i, none⟩ = false := by rw [hv2, World.frozen?_setCell]; exact HPf.out.1
    obtain ⟨u1, f2⟩ : ∃ u, v2.cell? ⟨pb, i, none⟩ = some u := by obtain ⟨u, hu⟩ := HPf.out.2; exact ⟨u, cell_but hb2 hu hne2⟩
    have s2 := hb2.size
    obtain ⟨a9, c9, v5, hrun, r1, r2, r3⟩ := left_more (e1 := e1) (e2 := e2) (e3 := e3) (rt := rt) (qq := qq) (i := i) hP2 hL2 ⟨HB.out.1, HB.out.2.1, Nat.le_trans HB.out.2.2 (Nat.le_trans HB1.out.size s2)⟩ hm w.heap.size (Nat.lt_of_lt_of_le HLt.out s2)
    have HR := hid (And.intro r1 (And.intro r2 ((But.of (S := From B1) HB1.out).trans ((hb2.mono (fun k hk => by show B1 ≤ k; have := HB.out; omega)).trans r3))))
    have HRUN := hid hrun
    have d0 : (v2.setCell ⟨pb, i, none⟩ (.int .i64 (m : Int))).cell? ⟨w.heap.size, 0, none⟩ = some (.int .i64 e1) := cell_but ((But.refl (· = pb) v2).setCell (p := ⟨pb, i, none⟩) rfl _) hct2.c0 hne
    have d1 : (v2.setCell ⟨pb, i, none⟩ (.int .i64 (m : Int))).cell? ⟨w.heap.size, 1, none⟩ = some (.int .u64 (e2 : Int)) := cell_but ((But.refl (· = pb) v2).setCell (p := ⟨pb, i, none⟩) rfl _) hct2.c1 hne
    have d2 : (v2.setCell ⟨pb, i, none⟩ (.int .i64 (m : Int))).cell? ⟨w.heap.size, 2, none⟩ = some (.int .u64 (e3 : Int)) := cell_but ((But.refl (· = pb) v2).setCell (p := ⟨pb, i, none⟩) rfl _) hct2.c2 hne
    have d3 : (v2.setCell ⟨pb, i, none⟩ (.int .i64 (m : Int))).cell? ⟨w.heap.size, 3, none⟩ = some (.int .i64 rt) := cell_but ((But.refl (· = pb) v2).setCell (p := ⟨pb, i, none⟩) rfl _) hct2.c3 hne
    have d4 : (v2.setCell ⟨pb, i, none⟩ (.int .i64 (m : Int))).cell? ⟨w.heap.size, 4, none⟩ = some (.int .i64 qq) := cell_but ((But.refl (· = pb) v2).setCell (p := ⟨pb, i, none⟩) rfl _) hct2.c4 hne
    clear r1 r2 r3 hrun hne hne2 hP2 hL2 hct2 hb2 s2 hp2 hp3
    go_upto_region 51 with fail
    rw [← hv2]
    clear hv2
    go_upto_region 52 with fail
    generalize v2.setCell ⟨pb, i, none⟩ (.int .i64 (m : Int)) = v3 at *
    go_wp2_with (first | (at_builtin; refine wpList_append_known rfl _ _ 44 rfl _ _ rfl rfl _ v5 HRUN.out ?_))
    exact HK.out _ _ _ HR.out ..
end Go.Proofs.YtnjadfgfpebkdaaGreat.D
