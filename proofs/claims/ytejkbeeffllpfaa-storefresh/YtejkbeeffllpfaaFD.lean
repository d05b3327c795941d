import Derived.Test.YtejkbeeffllpfaaFB
namespace Go.Proofs.Ytejkbeeffllpfaa
open Go.RowKit
set_option linter.unusedVariables false
set_option linter.unusedSimpArgs false

def BkRel (nR : Nat) (w : World) (v : Value) (w' : World) : Prop := ∃ i : Nat, v = .int .i64 (i : Int) ∧ i ≤ nR ∧ Below w.heap.size w w'
set_option maxRecDepth 1000000 in
set_option maxHeartbeats 4000000 in
theorem fr_b6 {u0 u3 u4 u5 u6 u8 u9 u10 u13 u14 u15 u16 u17 u18 u19 u20 u21 u23 u24 u25 u26 u27 u28 u29 u30 u31 u32 u33 u34 u35 u36 u37 u38 u39 u40 u41 u42 u43 u44 u45 u46 u47 u48 u49 u50 u51 u52 u53 u54 u55 u56 u57 u58 u59 u60 u61 u62 u63 u64 u65 u66 u67 u68 u69 u70 u71 u72 u73 u74 u75 u76 u77 u78 u79 u80 u81 u82 u83 u84 u85 u86 u87 u88 u89 u90 u91 u92 u93 u94 u95 u96 u97 u98 u99 u100 u101 u102 u103 u104 u105 u106 u107 u108 u109 u110 u111 u112 u113 u114 u115 u116 u117 u118 u119 u120 u121 u122 u123 u124 u125 u126 u127 u128 u129 u130 u131 u132 u133 u134 u135 u136 u137 u138 u139 u140 u141 u142 u143 u144 u145 u146 u147 u148 u149 u150 u151 u152 u153 u154 u155 u156 u157 u158 u159 u160 u161 u162 u163 u164 u165 u166 u167 u168 u169 u170 u171 u172 u173 u174 u175 u176 u177 u178 u179 u180 u181 u182 u183 u184 u185 u186 u187 u188 u189 u190 u191 u192 u193 u194 u195 u196 u197 u198 u199 u200 u201 u202 u203 u204 u205 u206 u207 u208 u209 u210 u211 u212 u213 u214 u215 u216 u217 u218 u219 u220 u221 u222 u223 u224 u225 u226 u227 u228 u229 u230 u231 u232 u233 u234 u235 u236 u237 u238 u239 u240 u241 u242 u243 u244 u245 u246 u247 u248 u249 u250 u251 u252 u253 u254 u255 u256 u257 u258 u259 u260 u261 u262 u263 u264 u265 u266 u267 u268 u269 u270 u271 u272 u273 u274 u275 u276 u277 u278 u279 u280 u281 u282 u283 u284 u285 u286 u287 u288 u289 u290 u291 u292 u293 u294 u295 u296 u297 u298 u299 u300 u301 u302 u303 u304 u305 u306 u307 u308 u309 u310 u311 u312 u313 u314 u315 u316 u317 u318 u319 u320 u321 u322 u323 u324 u325 u326 u327 u328 u329 u330 u331 u332 u333 u334 u335 u336 u337 u338 u339 u340 u341 u342 u343 u344 u345 u346 u347 u348 : Value} {Q : Exit → Act → World → Prop} (base : Nat) (z : Sid) (r : Nat) (nx : Int) (Os : List Ob) (G : Int → Nat) (a : Option Addr) (cap : Nat) (col0 : Nat → Nat) (bx : Nat) (off n : Int) (L : Nat) (wp : World) (col : Nat → Nat) (aI : Option Addr) (cI : Nat) (aR : Option Addr) (nR cR : Nat) (T : Nat → Sl) (V : Nat → List Value) (aL : Option Addr) (nL cL : Nat) (T2 : Nat → Sl) (V2 : Nat → List Value) (w : World) (hD : Duo wp base z r nx Os G a cap col0) (hb0 : wp.cell? ⟨bx, 0, none⟩ = some (.pointer (some ⟨z.s, 0, none⟩))) (hb1 : wp.cell? ⟨bx, 1, none⟩ = some (.pointer (some ⟨r, 0, none⟩))) (ho : i64ok off) (hL : L = Os.length) (hL64 : L ≤ 64) (hB : Bu wp w col aI L cI (Os.map Ob.id) aR nR cR T V aL nL cL T2 V2) (hN : nR = 2 * L) (hV : ∀ k, k < nR → V k = Dv Os off n L k) (hP : ∀ c a d v w, Q (.panic c) (Act.put a d v) w → Q (.panic c) a w)
    (hK : ∀ (w' : World), Below w.heap.size w w' → ∀ (v6 v22 v23 v24 v118 v119 v120 v121 v122 v123 v124 v125 v126 v127 v128 v129 v130 v131 v132 v133 v134 v135 v136 v137 v138 v139 v140 v141 v142 v143 v144 v145 : Value), Q (.exit 6) ⟨List.toArray (u0 :: .int .i64 off :: .int .i64 n :: u3 :: u4 :: u5 :: v6 :: .pointer (some ⟨bx, 0, none⟩) :: u8 :: u9 :: u10 :: .slice aI L cI :: .slice aR nR cR :: u13 :: u14 :: u15 :: u16 :: u17 :: u18 :: u19 :: u20 :: u21 :: v22 :: v23 :: v24 :: u25 :: u26 :: u27 :: u28 :: u29 :: u30 :: u31 :: u32 :: u33 :: u34 :: u35 :: u36 :: u37 :: u38 :: u39 :: u40 :: u41 :: u42 :: u43 :: u44 :: u45 :: u46 :: u47 :: u48 :: u49 :: u50 :: u51 :: u52 :: u53 :: u54 :: u55 :: u56 :: u57 :: u58 :: u59 :: u60 :: u61 :: u62 :: u63 :: u64 :: u65 :: u66 :: u67 :: u68 :: u69 :: u70 :: u71 :: u72 :: u73 :: u74 :: u75 :: u76 :: u77 :: u78 :: u79 :: u80 :: u81 :: u82 :: u83 :: u84 :: u85 :: u86 :: u87 :: u88 :: u89 :: u90 :: u91 :: u92 :: u93 :: u94 :: u95 :: u96 :: u97 :: u98 :: u99 :: u100 :: u101 :: u102 :: u103 :: u104 :: u105 :: u106 :: u107 :: u108 :: u109 :: u110 :: u111 :: u112 :: u113 :: u114 :: u115 :: u116 :: u117 :: v118 :: v119 :: v120 :: v121 :: v122 :: v123 :: v124 :: v125 :: v126 :: v127 :: v128 :: v129 :: v130 :: v131 :: v132 :: v133 :: v134 :: v135 :: v136 :: v137 :: v138 :: v139 :: v140 :: v141 :: v142 :: v143 :: v144 :: v145 :: u146 :: u147 :: u148 :: u149 :: u150 :: u151 :: u152 :: u153 :: u154 :: u155 :: u156 :: u157 :: u158 :: u159 :: u160 :: u161 :: u162 :: u163 :: u164 :: u165 :: u166 :: u167 :: u168 :: u169 :: u170 :: u171 :: u172 :: u173 :: u174 :: u175 :: u176 :: u177 :: u178 :: u179 :: u180 :: u181 :: u182 :: u183 :: u184 :: u185 :: u186 :: u187 :: u188 :: u189 :: u190 :: u191 :: u192 :: u193 :: u194 :: u195 :: u196 :: u197 :: u198 :: u199 :: u200 :: u201 :: u202 :: u203 :: u204 :: u205 :: u206 :: u207 :: u208 :: u209 :: u210 :: u211 :: u212 :: u213 :: u214 :: u215 :: u216 :: u217 :: u218 :: u219 :: u220 :: u221 :: u222 :: u223 :: u224 :: u225 :: u226 :: u227 :: u228 :: u229 :: u230 :: u231 :: u232 :: u233 :: u234 :: u235 :: u236 :: u237 :: u238 :: u239 :: u240 :: u241 :: u242 :: u243 :: u244 :: u245 :: u246 :: u247 :: u248 :: u249 :: u250 :: u251 :: u252 :: u253 :: u254 :: u255 :: u256 :: u257 :: u258 :: u259 :: u260 :: u261 :: u262 :: u263 :: u264 :: u265 :: u266 :: u267 :: u268 :: u269 :: u270 :: u271 :: u272 :: u273 :: u274 :: u275 :: u276 :: u277 :: u278 :: u279 :: u280 :: u281 :: u282 :: u283 :: u284 :: u285 :: u286 :: u287 :: u288 :: u289 :: u290 :: u291 :: u292 :: u293 :: u294 :: u295 :: u296 :: u297 :: u298 :: u299 :: u300 :: u301 :: u302 :: u303 :: u304 :: u305 :: u306 :: u307 :: u308 :: u309 :: u310 :: u311 :: u312 :: u313 :: u314 :: u315 :: u316 :: u317 :: u318 :: u319 :: u320 :: u321 :: u322 :: u323 :: u324 :: u325 :: u326 :: u327 :: u328 :: u329 :: u330 :: u331 :: u332 :: u333 :: u334 :: u335 :: u336 :: u337 :: u338 :: u339 :: u340 :: u341 :: u342 :: u343 :: u344 :: u345 :: u346 :: u347 :: u348 :: []), []⟩ w') :
    Code.wp Try.prog (lpO Try.f4.body 9) Q ⟨List.toArray (u0 :: .int .i64 off :: .int .i64 n :: u3 :: u4 :: u5 :: u6 :: .pointer (some ⟨bx, 0, none⟩) :: u8 :: u9 :: u10 :: .slice aI L cI :: .slice aR nR cR :: u13 :: u14 :: u15 :: u16 :: u17 :: u18 :: u19 :: u20 :: u21 :: .int .i64 0 :: u23 :: u24 :: u25 :: u26 :: u27 :: u28 :: u29 :: u30 :: u31 :: u32 :: u33 :: u34 :: u35 :: u36 :: u37 :: u38 :: u39 :: u40 :: u41 :: u42 :: u43 :: u44 :: u45 :: u46 :: u47 :: u48 :: u49 :: u50 :: u51 :: u52 :: u53 :: u54 :: u55 :: u56 :: u57 :: u58 :: u59 :: u60 :: u61 :: u62 :: u63 :: u64 :: u65 :: u66 :: u67 :: u68 :: u69 :: u70 :: u71 :: u72 :: u73 :: u74 :: u75 :: u76 :: u77 :: u78 :: u79 :: u80 :: u81 :: u82 :: u83 :: u84 :: u85 :: u86 :: u87 :: u88 :: u89 :: u90 :: u91 :: u92 :: u93 :: u94 :: u95 :: u96 :: u97 :: u98 :: u99 :: u100 :: u101 :: u102 :: u103 :: u104 :: u105 :: u106 :: u107 :: u108 :: u109 :: u110 :: u111 :: u112 :: u113 :: u114 :: u115 :: u116 :: u117 :: u118 :: u119 :: u120 :: u121 :: u122 :: u123 :: u124 :: u125 :: u126 :: u127 :: u128 :: u129 :: u130 :: u131 :: u132 :: u133 :: u134 :: u135 :: u136 :: u137 :: u138 :: u139 :: u140 :: u141 :: u142 :: u143 :: u144 :: u145 :: u146 :: u147 :: u148 :: u149 :: u150 :: u151 :: u152 :: u153 :: u154 :: u155 :: u156 :: u157 :: u158 :: u159 :: u160 :: u161 :: u162 :: u163 :: u164 :: u165 :: u166 :: u167 :: u168 :: u169 :: u170 :: u171 :: u172 :: u173 :: u174 :: u175 :: u176 :: u177 :: u178 :: u179 :: u180 :: u181 :: u182 :: u183 :: u184 :: u185 :: u186 :: u187 :: u188 :: u189 :: u190 :: u191 :: u192 :: u193 :: u194 :: u195 :: u196 :: u197 :: u198 :: u199 :: u200 :: u201 :: u202 :: u203 :: u204 :: u205 :: u206 :: u207 :: u208 :: u209 :: u210 :: u211 :: u212 :: u213 :: u214 :: u215 :: u216 :: u217 :: u218 :: u219 :: u220 :: u221 :: u222 :: u223 :: u224 :: u225 :: u226 :: u227 :: u228 :: u229 :: u230 :: u231 :: u232 :: u233 :: u234 :: u235 :: u236 :: u237 :: u238 :: u239 :: u240 :: u241 :: u242 :: u243 :: u244 :: u245 :: u246 :: u247 :: u248 :: u249 :: u250 :: u251 :: u252 :: u253 :: u254 :: u255 :: u256 :: u257 :: u258 :: u259 :: u260 :: u261 :: u262 :: u263 :: u264 :: u265 :: u266 :: u267 :: u268 :: u269 :: u270 :: u271 :: u272 :: u273 :: u274 :: u275 :: u276 :: u277 :: u278 :: u279 :: u280 :: u281 :: u282 :: u283 :: u284 :: u285 :: u286 :: u287 :: u288 :: u289 :: u290 :: u291 :: u292 :: u293 :: u294 :: u295 :: u296 :: u297 :: u298 :: u299 :: u300 :: u301 :: u302 :: u303 :: u304 :: u305 :: u306 :: u307 :: u308 :: u309 :: u310 :: u311 :: u312 :: u313 :: u314 :: u315 :: u316 :: u317 :: u318 :: u319 :: u320 :: u321 :: u322 :: u323 :: u324 :: u325 :: u326 :: u327 :: u328 :: u329 :: u330 :: u331 :: u332 :: u333 :: u334 :: u335 :: u336 :: u337 :: u338 :: u339 :: u340 :: u341 :: u342 :: u343 :: u344 :: u345 :: u346 :: u347 :: u348 :: []), []⟩ w := by
  conv => arg 2; whnf
  have HP := hid hP
  have HK := hid hK
  have HB := hid hB
  have HD := hid hD
  have HL := hid hL
  have HN := hid hN
  have HV := hid hV
  have HB0 := hid hb0
  have HB1 := hid hb1
  have hcI := hB.idr.read.cap_
  have hcR := hB.rows.ou.read.cap_
  have hnx := hD.s.nx1
  have hnR : nR ≤ 128 := by omega
  clear hP hK hB hD hL hN hV hb0 hb1
  go_loopw [22] (BkRel nR w) (fun v _ => nR - ivN v)
  case atStart => exact ⟨0, rfl, Nat.zero_le _, Below.refl _ _⟩
  case round =>
    obtain ⟨i, rfl, hi, hBe⟩ := hrel
    have HBE := hid hBe
    have HBW := hid (HB.out.later hBe)
    clear hBe
    by_cases hlt : i < nR
    · have hd : decide ((i : Int) < (nR : Int)) = true := decide_eq_true (by omega)
      have hL0 : 0 < L := by have := HN.out; omega
      obtain ⟨kk, hk1, hkk, hkl⟩ : ∃ kk : Nat, i % L = kk ∧ (i : Int) % (L : Int) = (kk : Int) ∧ kk < L := ⟨i % L, rfl, by rw [Int.natCast_emod], Nat.mod_lt _ hL0⟩
      have hio : kk < Os.length := by have := HL.out; omega
      obtain ⟨gI, rfl, _⟩ := HBW.out.idr.spot hL0
      have c0 := HBW.out.idr.read.cells _ rfl kk _ (ints_get _ kk (by simpa using hio))
      rw [addr_add0, List.getElem_map] at c0
      have hids := HD.out.s.ids _ (List.getElem_mem hio)
      have HDV : Hid (V i = u8s (rdL Os Os[kk].id off n)) := hid (by
        rw [HV.out i hlt]
        unfold Dv
        rw [hk1, List.getD_eq_getElem?_getD, List.getElem?_eq_getElem (by simpa using hio)]
        simp)
      obtain ⟨id, hidd⟩ : ∃ id, id = Os[kk].id := ⟨_, rfl⟩
      rw [← hidd] at c0 hids HDV
      have hi64 : i64ok id := ⟨by omega, by omega⟩
      obtain ⟨D, hDD⟩ : ∃ D, D = rdL Os id off n := ⟨_, rfl⟩
      obtain ⟨E, hE⟩ : ∃ E, E = rvE (vw Os) id off n := ⟨_, rfl⟩
      obtain ⟨gR, rfl, hcell⟩ := HBW.out.rows.cell hlt
      obtain ⟨⟨x, d, ca⟩, hT⟩ : ∃ t : Sl, T i = t := ⟨_, rfl⟩
      have y0 := hcell _ _ _ hT
      have hRow := (HBW.out.rows.inn i hlt).read
      rw [hT, HDV.out, ← hDD] at hRow
      simp only at hRow
      have HRow := hid hRow
      have HSM : Hid (∀ x ∈ D, x < 256) := hid (by rw [hDD]; exact rdL_small HD.out.s id off n)
      have HVE := hid hE.symm
      have HDL : Hid (D.length = d) := hid (by have := hRow.len; rwa [u8s_length] at this)
      have HVL : Hid (rvL (vw Os) id off n = D) := hid (by rw [vw_rdL, hDD])
      have HDW := hid (HD.out.later HBW.out.bel)
      have b1 := cell_later HBW.out.bel HB1.out
      have HS : Hid (∀ U, Below wr.heap.size wr U → (U.cell? ⟨bx, 1, none⟩ = some (.pointer (some ⟨r, 0, none⟩)) ∧ U.cell? ⟨gI, kk, none⟩ = some (.int .i64 id)) ∧ Below wr.heap.size wr U) := hid (fun U hU => ⟨⟨cell_later hU b1, cell_later hU c0⟩, hU⟩)
      have HY := hid y0
      have hLz : (L = 0) = False := by simp; omega
      have htm : Int.tmod (i : Int) (L : Int) = (kk : Int) := by rw [Int.tmod_eq_emod_of_nonneg (by omega)]; exact hkk
      have hwr : IntKind.i64.wrap (kk : Int) = (kk : Int) := by unfold IntKind.wrap; simp [IntKind.bits, IntKind.signed]; omega
      have hk0 : (0 : Int) ≤ (kk : Int) := by omega
      have hkL : (kk : Int) < (L : Int) := by omega
      clear hDD hE hidd b1 c0 hcell hT hRow y0 hk1
      go_upto_region 30 with fail
      go_region_held3 (fun U => (U.cell? ⟨bx, 1, none⟩ = some (.pointer (some ⟨r, 0, none⟩)) ∧ U.cell? ⟨gI, kk, none⟩ = some (.int .i64 id)) ∧ Below wr.heap.size wr U) (first | exact HS.out _ hb5.out | exact HS.out _ (Below.refl _ _).drew) (first
        | (go_at_call 18; refine (rread_any base r z.room z.n nx (vw Os) G a cap col0 id off n _ (HDW.out.q.later (Below.refl _ _).drew) ho).mono ?_; rintro e w5 ⟨b5, c5, rfl, O5, B5⟩; rw [HVL.out, HVE.out, HDL.out]; rw [HVL.out, HDL.out] at O5; have hb5 := hid (below_call (Below.refl wr.heap.size wr).drew B5); have HO5 := hid O5; clear O5 B5))
      have HR4 := hid (HRow.out.later hb5.out)
      have HR5 := hid HO5.out.read
      have y1 := cell_later hb5.out HY.out
      go_wp2_with (first
        | (go_at_call 11; refine (same_any _ _ d d ca c5 D D _ HR4.out HR5.out HSM.out HSM.out).mono ?_; rintro e w6 ⟨rfl, hw⟩; obtain rfl := hw.symm; rw [decide_eq_true rfl]))
      exact ⟨⟨i + 1, rfl, by omega, below_call HBE.out hb5.out⟩, by simp [ivN]; omega⟩
    · obtain rfl : i = nR := by omega
      have hd : decide ((i : Int) < (i : Int)) = false := by simp
      go_wp2
      exact HK.out _ HBE.out ..
end Go.Proofs.Ytejkbeeffllpfaa
