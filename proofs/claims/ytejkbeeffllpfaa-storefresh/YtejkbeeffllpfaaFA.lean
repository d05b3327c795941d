import Derived.Test.YtejkbeeffllpfaaFB
import Derived.Test.YtejkbeeffllpfaaLA
namespace Go.Proofs.Ytejkbeeffllpfaa
open Go.RowKit
set_option linter.unusedVariables false
set_option linter.unusedSimpArgs false

/-- One pair and its box. -/
structure One (w : World) (z : Sid) (r bx : Nat) (M : Nat → Prop) (w' : World) : Prop where
  a : Pr w' w.heap.size z r M
  na : ¬ M bx
  lt : bx < w'.heap.size
  a0 : w'.cell? ⟨bx, 0, none⟩ = some (.pointer (some ⟨z.s, 0, none⟩))
  a1 : w'.cell? ⟨bx, 1, none⟩ = some (.pointer (some ⟨r, 0, none⟩))
  bel : Below w.heap.size w w'
theorem One.play {w : World} {z : Sid} {r bx : Nat} {M : Nat → Prop} {W w' : World} (h : One w z r bx M W) (hl : Left W w.heap.size z r M w') : ∃ M', One w z r bx M' w' := by
  obtain ⟨M', h1, h2, h3⟩ := hl
  have hs := h3.size
  refine ⟨M', ⟨h1, fun e => ?_, by have := h.lt; omega, cell_but h3 h.a0 h.na, cell_but h3 h.a1 h.na, But.below h.bel h3 (fun k hk => (h.a.in_ k hk).1)⟩⟩
  rcases h2 _ e with h4 | h4
  · exact h.na h4
  · have := h.lt
    omega
theorem One.later {w : World} {z : Sid} {r bx : Nat} {M : Nat → Prop} {W w' : World} (hb : Below W.heap.size W w') (h : One w z r bx M W) : One w z r bx M w' :=
  ⟨h.a.later hb, h.na, Nat.lt_of_lt_of_le h.lt hb.size, cell_later hb h.a0, cell_later hb h.a1, below_call h.bel hb⟩
def PlRel (w : World) (z : Sid) (r bx k : Nat) (v : Value) (w' : World) : Prop := ∃ (i : Nat) (M : Nat → Prop), v = .int .i64 (i : Int) ∧ i ≤ k ∧ One w z r bx M w'
set_option maxRecDepth 1000000 in
set_option maxHeartbeats 4000000 in
theorem fr_b0 {u1 u2 u3 u4 u5 u6 u8 u10 u11 u12 u13 u14 u15 u16 u17 u18 u19 u20 u21 u22 u23 u24 u25 u26 u27 u28 u29 u30 u31 u32 u33 u34 u35 u36 u37 u38 u39 u40 u41 u42 u43 u44 u45 u46 u47 u48 u49 u50 u51 u52 u53 u54 u55 u56 u57 u58 u59 u60 u61 u62 u63 u64 u65 u66 u67 u68 u69 u70 u71 u72 u73 u74 u75 u76 u77 u78 u79 u80 u81 u82 u83 u84 u85 u86 u87 u88 u89 u90 u91 u92 u93 u94 u95 u96 u97 u98 u99 u100 u101 u102 u103 u104 u105 u106 u107 u108 u109 u110 u111 u112 u113 u114 u115 u116 u117 u118 u119 u120 u121 u122 u123 u124 u125 u126 u127 u128 u129 u130 u131 u132 u133 u134 u135 u136 u137 u138 u139 u140 u141 u142 u143 u144 u145 u146 u147 u148 u149 u150 u151 u152 u153 u154 u155 u156 u157 u158 u159 u160 u161 u162 u163 u164 u165 u166 u167 u168 u169 u170 u171 u172 u173 u174 u175 u176 u177 u178 u179 u180 u181 u182 u183 u184 u185 u186 u187 u188 u189 u190 u191 u192 u193 u194 u195 u196 u197 u198 u199 u200 u201 u202 u203 u204 u205 u206 u207 u208 u209 u210 u211 u212 u213 u214 u215 u216 u217 u218 u219 u220 u221 u222 u223 u224 u225 u226 u227 u228 u229 u230 u231 u232 u233 u234 u235 u236 u237 u238 u239 u240 u241 u242 u243 u244 u245 u246 u247 u248 u249 u250 u251 u252 u253 u254 u255 u256 u257 u258 u259 u260 u261 u262 u263 u264 u265 u266 u267 u268 u269 u270 u271 u272 u273 u274 u275 u276 u277 u278 u279 u280 u281 u282 u283 u284 u285 u286 u287 u288 u289 u290 u291 u292 u293 u294 u295 u296 u297 u298 u299 u300 u301 u302 u303 u304 u305 u306 u307 u308 u309 u310 u311 u312 u313 u314 u315 u316 u317 u318 u319 u320 u321 u322 u323 u324 u325 u326 u327 u328 u329 u330 u331 u332 u333 u334 u335 u336 u337 u338 u339 u340 u341 u342 u343 u344 u345 u346 u347 u348 : Value} {Q : Exit → Act → World → Prop} (w0 : World) (z : Sid) (r bx : Nat) (M : Nat → Prop) (x : Option Addr) (k cap : Nat) (f : Nat → Opx) (w : World) (hS : Scr w0 x k cap f) (hk : k ≤ 9223372036854775807) (hO : One w0 z r bx M w) (hP : ∀ c a d v w, Q (.panic c) (Act.put a d v) w → Q (.panic c) a w)
    (hK : ∀ (M' : Nat → Prop) (w' : World), One w0 z r bx M' w' → ∀ (v6 v9 v10 v48 v49 v50 v51 v52 v53 v54 v55 v56 v57 v58 v59 v60 v61 : Value), Q (.exit 0) ⟨List.toArray (.slice x k cap :: u1 :: u2 :: u3 :: u4 :: u5 :: v6 :: .pointer (some ⟨bx, 0, none⟩) :: u8 :: v9 :: v10 :: u11 :: u12 :: u13 :: u14 :: u15 :: u16 :: u17 :: u18 :: u19 :: u20 :: u21 :: u22 :: u23 :: u24 :: u25 :: u26 :: u27 :: u28 :: u29 :: u30 :: u31 :: u32 :: u33 :: u34 :: u35 :: u36 :: u37 :: u38 :: u39 :: u40 :: u41 :: u42 :: u43 :: u44 :: u45 :: u46 :: u47 :: v48 :: v49 :: v50 :: v51 :: v52 :: v53 :: v54 :: v55 :: v56 :: v57 :: v58 :: v59 :: v60 :: v61 :: u62 :: u63 :: u64 :: u65 :: u66 :: u67 :: u68 :: u69 :: u70 :: u71 :: u72 :: u73 :: u74 :: u75 :: u76 :: u77 :: u78 :: u79 :: u80 :: u81 :: u82 :: u83 :: u84 :: u85 :: u86 :: u87 :: u88 :: u89 :: u90 :: u91 :: u92 :: u93 :: u94 :: u95 :: u96 :: u97 :: u98 :: u99 :: u100 :: u101 :: u102 :: u103 :: u104 :: u105 :: u106 :: u107 :: u108 :: u109 :: u110 :: u111 :: u112 :: u113 :: u114 :: u115 :: u116 :: u117 :: u118 :: u119 :: u120 :: u121 :: u122 :: u123 :: u124 :: u125 :: u126 :: u127 :: u128 :: u129 :: u130 :: u131 :: u132 :: u133 :: u134 :: u135 :: u136 :: u137 :: u138 :: u139 :: u140 :: u141 :: u142 :: u143 :: u144 :: u145 :: u146 :: u147 :: u148 :: u149 :: u150 :: u151 :: u152 :: u153 :: u154 :: u155 :: u156 :: u157 :: u158 :: u159 :: u160 :: u161 :: u162 :: u163 :: u164 :: u165 :: u166 :: u167 :: u168 :: u169 :: u170 :: u171 :: u172 :: u173 :: u174 :: u175 :: u176 :: u177 :: u178 :: u179 :: u180 :: u181 :: u182 :: u183 :: u184 :: u185 :: u186 :: u187 :: u188 :: u189 :: u190 :: u191 :: u192 :: u193 :: u194 :: u195 :: u196 :: u197 :: u198 :: u199 :: u200 :: u201 :: u202 :: u203 :: u204 :: u205 :: u206 :: u207 :: u208 :: u209 :: u210 :: u211 :: u212 :: u213 :: u214 :: u215 :: u216 :: u217 :: u218 :: u219 :: u220 :: u221 :: u222 :: u223 :: u224 :: u225 :: u226 :: u227 :: u228 :: u229 :: u230 :: u231 :: u232 :: u233 :: u234 :: u235 :: u236 :: u237 :: u238 :: u239 :: u240 :: u241 :: u242 :: u243 :: u244 :: u245 :: u246 :: u247 :: u248 :: u249 :: u250 :: u251 :: u252 :: u253 :: u254 :: u255 :: u256 :: u257 :: u258 :: u259 :: u260 :: u261 :: u262 :: u263 :: u264 :: u265 :: u266 :: u267 :: u268 :: u269 :: u270 :: u271 :: u272 :: u273 :: u274 :: u275 :: u276 :: u277 :: u278 :: u279 :: u280 :: u281 :: u282 :: u283 :: u284 :: u285 :: u286 :: u287 :: u288 :: u289 :: u290 :: u291 :: u292 :: u293 :: u294 :: u295 :: u296 :: u297 :: u298 :: u299 :: u300 :: u301 :: u302 :: u303 :: u304 :: u305 :: u306 :: u307 :: u308 :: u309 :: u310 :: u311 :: u312 :: u313 :: u314 :: u315 :: u316 :: u317 :: u318 :: u319 :: u320 :: u321 :: u322 :: u323 :: u324 :: u325 :: u326 :: u327 :: u328 :: u329 :: u330 :: u331 :: u332 :: u333 :: u334 :: u335 :: u336 :: u337 :: u338 :: u339 :: u340 :: u341 :: u342 :: u343 :: u344 :: u345 :: u346 :: u347 :: u348 :: []), []⟩ w') :
    Code.wp Try.prog (lpO Try.f4.body 4) Q ⟨List.toArray (.slice x k cap :: u1 :: u2 :: u3 :: u4 :: u5 :: u6 :: .pointer (some ⟨bx, 0, none⟩) :: u8 :: .int .i64 0 :: u10 :: u11 :: u12 :: u13 :: u14 :: u15 :: u16 :: u17 :: u18 :: u19 :: u20 :: u21 :: u22 :: u23 :: u24 :: u25 :: u26 :: u27 :: u28 :: u29 :: u30 :: u31 :: u32 :: u33 :: u34 :: u35 :: u36 :: u37 :: u38 :: u39 :: u40 :: u41 :: u42 :: u43 :: u44 :: u45 :: u46 :: u47 :: u48 :: u49 :: u50 :: u51 :: u52 :: u53 :: u54 :: u55 :: u56 :: u57 :: u58 :: u59 :: u60 :: u61 :: u62 :: u63 :: u64 :: u65 :: u66 :: u67 :: u68 :: u69 :: u70 :: u71 :: u72 :: u73 :: u74 :: u75 :: u76 :: u77 :: u78 :: u79 :: u80 :: u81 :: u82 :: u83 :: u84 :: u85 :: u86 :: u87 :: u88 :: u89 :: u90 :: u91 :: u92 :: u93 :: u94 :: u95 :: u96 :: u97 :: u98 :: u99 :: u100 :: u101 :: u102 :: u103 :: u104 :: u105 :: u106 :: u107 :: u108 :: u109 :: u110 :: u111 :: u112 :: u113 :: u114 :: u115 :: u116 :: u117 :: u118 :: u119 :: u120 :: u121 :: u122 :: u123 :: u124 :: u125 :: u126 :: u127 :: u128 :: u129 :: u130 :: u131 :: u132 :: u133 :: u134 :: u135 :: u136 :: u137 :: u138 :: u139 :: u140 :: u141 :: u142 :: u143 :: u144 :: u145 :: u146 :: u147 :: u148 :: u149 :: u150 :: u151 :: u152 :: u153 :: u154 :: u155 :: u156 :: u157 :: u158 :: u159 :: u160 :: u161 :: u162 :: u163 :: u164 :: u165 :: u166 :: u167 :: u168 :: u169 :: u170 :: u171 :: u172 :: u173 :: u174 :: u175 :: u176 :: u177 :: u178 :: u179 :: u180 :: u181 :: u182 :: u183 :: u184 :: u185 :: u186 :: u187 :: u188 :: u189 :: u190 :: u191 :: u192 :: u193 :: u194 :: u195 :: u196 :: u197 :: u198 :: u199 :: u200 :: u201 :: u202 :: u203 :: u204 :: u205 :: u206 :: u207 :: u208 :: u209 :: u210 :: u211 :: u212 :: u213 :: u214 :: u215 :: u216 :: u217 :: u218 :: u219 :: u220 :: u221 :: u222 :: u223 :: u224 :: u225 :: u226 :: u227 :: u228 :: u229 :: u230 :: u231 :: u232 :: u233 :: u234 :: u235 :: u236 :: u237 :: u238 :: u239 :: u240 :: u241 :: u242 :: u243 :: u244 :: u245 :: u246 :: u247 :: u248 :: u249 :: u250 :: u251 :: u252 :: u253 :: u254 :: u255 :: u256 :: u257 :: u258 :: u259 :: u260 :: u261 :: u262 :: u263 :: u264 :: u265 :: u266 :: u267 :: u268 :: u269 :: u270 :: u271 :: u272 :: u273 :: u274 :: u275 :: u276 :: u277 :: u278 :: u279 :: u280 :: u281 :: u282 :: u283 :: u284 :: u285 :: u286 :: u287 :: u288 :: u289 :: u290 :: u291 :: u292 :: u293 :: u294 :: u295 :: u296 :: u297 :: u298 :: u299 :: u300 :: u301 :: u302 :: u303 :: u304 :: u305 :: u306 :: u307 :: u308 :: u309 :: u310 :: u311 :: u312 :: u313 :: u314 :: u315 :: u316 :: u317 :: u318 :: u319 :: u320 :: u321 :: u322 :: u323 :: u324 :: u325 :: u326 :: u327 :: u328 :: u329 :: u330 :: u331 :: u332 :: u333 :: u334 :: u335 :: u336 :: u337 :: u338 :: u339 :: u340 :: u341 :: u342 :: u343 :: u344 :: u345 :: u346 :: u347 :: u348 :: []), []⟩ w := by
  conv => arg 2; whnf
  have HP := hid hP
  have HK := hid hK
  have HS := hid hS
  have HT := hid hO
  clear hP hK hS hO
  go_loopw [9] (PlRel w0 z r bx k) (fun v _ => k - ivN v)
  case atStart => exact ⟨0, _, rfl, Nat.zero_le _, HT.out⟩
  case round =>
    clear HT
    obtain ⟨i, M, rfl, hi, hT⟩ := hrel
    have HT := hid hT
    clear hT
    by_cases hlt : i < k
    · have hd : decide ((i : Int) < (k : Int)) = true := decide_eq_true (by omega)
      obtain ⟨b, o, rfl, hc⟩ := HS.out.plain (by omega)
      have HSC := hid (hc i hlt)
      have hcap := HS.out.cap_
      have HOP := hid (HS.out.ok i hlt)
      have HDA : Hid (0 < (f i).md → ∀ j, Blk (f i).da j → j < w0.heap.size) := hid (fun h0 j hj => blk_lt HOP.out.rd h0 j hj)
      have HS5 : Hid (∀ U, But M wr U → (U.cell? ⟨bx, 0, none⟩ = some (.pointer (some ⟨z.s, 0, none⟩)) ∧ U.cell? ⟨bx, 1, none⟩ = some (.pointer (some ⟨r, 0, none⟩)) ∧ U.cell? ⟨b, o + i * 6, none⟩ = some (.int .i64 (f i).kd) ∧ U.cell? ⟨b, o + i * 6 + 1, none⟩ = some (.int .i64 (f i).wh) ∧ U.cell? ⟨b, o + i * 6 + 2, none⟩ = some (.int .i64 (f i).id) ∧ U.cell? ⟨b, o + i * 6 + 3, none⟩ = some (.int .i64 (f i).of) ∧ U.cell? ⟨b, o + i * 6 + 4, none⟩ = some (.int .i64 (f i).nn) ∧ U.cell? ⟨b, o + i * 6 + 5, none⟩ = some (.slice (f i).da (f i).md (f i).cd)) ∧ But M wr U) := hid (fun U hU => by
        have h := range_later (But.below HT.out.bel hU (fun k hk => (HT.out.a.in_ k hk).1)) HSC.out
        exact ⟨⟨cell_but hU HT.out.a0 HT.out.na, cell_but hU HT.out.a1 HT.out.na, h 0 _ rfl, h 1 _ rfl, h 2 _ rfl, h 3 _ rfl, h 4 _ rfl, h 5 _ rfl⟩, hU⟩)
      clear hc
      go_upto_region 9 with fail
      go_region_held3 (fun U => (U.cell? ⟨bx, 0, none⟩ = some (.pointer (some ⟨z.s, 0, none⟩)) ∧ U.cell? ⟨bx, 1, none⟩ = some (.pointer (some ⟨r, 0, none⟩)) ∧ U.cell? ⟨b, o + i * 6, none⟩ = some (.int .i64 (f i).kd) ∧ U.cell? ⟨b, o + i * 6 + 1, none⟩ = some (.int .i64 (f i).wh) ∧ U.cell? ⟨b, o + i * 6 + 2, none⟩ = some (.int .i64 (f i).id) ∧ U.cell? ⟨b, o + i * 6 + 3, none⟩ = some (.int .i64 (f i).of) ∧ U.cell? ⟨b, o + i * 6 + 4, none⟩ = some (.int .i64 (f i).nn) ∧ U.cell? ⟨b, o + i * 6 + 5, none⟩ = some (.slice (f i).da (f i).md (f i).cd)) ∧ But M wr U) (first | exact HS5.out _ hb7.out | exact HS5.out _ (But.of (Below.refl _ _).drew)) (first
        | (go_at_call 16; refine (play_any w0.heap.size z r M (f i) _ (HT.out.later (Below.refl _ _).drew).a (HOP.out.later (below_call HT.out.bel (Below.refl _ _).drew)) HDA.out).mono ?_; rintro e w7 ⟨rfl, L7_⟩; have L7 := hid L7_; have hb7 : Hid (But M wr w7) := hid (by obtain ⟨_, _, _, b7⟩ := L7_; exact (But.of (Below.refl wr.heap.size wr).drew).trans b7); clear L7_))
      obtain ⟨M7, T7⟩ := (HT.out.later (Below.refl _ _).drew).play L7.out
      have HT7 := hid T7
      clear T7 L7 hb7
      go_wp2
      exact ⟨⟨i + 1, _, rfl, by omega, HT7.out⟩, by simp [ivN]; omega⟩
    · obtain rfl : i = k := by omega
      have hd : decide ((i : Int) < (i : Int)) = false := by simp
      go_wp2
      exact HK.out _ _ HT.out ..
end Go.Proofs.Ytejkbeeffllpfaa
