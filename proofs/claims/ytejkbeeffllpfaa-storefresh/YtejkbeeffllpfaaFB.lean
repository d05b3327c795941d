import Derived.Test.YtejkbeeffllpfaaF1
namespace Go.Proofs.Ytejkbeeffllpfaa
open Go.RowKit
set_option linter.unusedVariables false
set_option linter.unusedSimpArgs false

/-- What the rows read. -/
def Dv (Os : List Ob) (off n : Int) (L k : Nat) : List Value := u8s (rdL Os ((Os.map Ob.id).getD (k % L) 0) off n)
theorem rdL_le (Os : List Ob) (id off n : Int) : (rdL Os id off n).length ≤ 1024 := by
  unfold rdL
  split
  · simp
  · split
    · rw [List.length_take]; omega
    · simp
def CoR (Os : List Ob) (off n : Int) (L n0 : Nat) (wp : World) (aI : Option Addr) (cI : Nat) (aL : Option Addr) (nL cL : Nat) (T2 : Nat → Sl) (V2 : Nat → List Value) (l v : Value) (w' : World) : Prop := ∃ (i : Nat) (col : Nat → Nat) (aR : Option Addr) (cR : Nat) (T : Nat → Sl) (V : Nat → List Value), l = .slice aR (n0 + i) cR ∧ v = .int .i64 (i : Int) ∧ i ≤ L ∧ Bu wp w' col aI L cI (Os.map Ob.id) aR (n0 + i) cR T V aL nL cL T2 V2 ∧ ∀ k, k < n0 + i → V k = Dv Os off n L k
set_option maxRecDepth 1000000 in
set_option maxHeartbeats 4000000 in
theorem fr_b4 {u0 u3 u4 u5 u6 u8 u9 u10 u13 u14 u15 u16 u18 u19 u20 u21 u22 u23 u24 u25 u26 u27 u28 u29 u30 u31 u32 u33 u34 u35 u36 u37 u38 u39 u40 u41 u42 u43 u44 u45 u46 u47 u48 u49 u50 u51 u52 u53 u54 u55 u56 u57 u58 u59 u60 u61 u62 u63 u64 u65 u66 u67 u68 u69 u70 u71 u72 u73 u74 u75 u76 u77 u78 u79 u80 u81 u82 u83 u84 u85 u86 u87 u88 u89 u90 u91 u92 u93 u94 u95 u96 u97 u98 u99 u100 u101 u102 u103 u104 u105 u106 u107 u108 u109 u110 u111 u112 u113 u114 u115 u116 u117 u118 u119 u120 u121 u122 u123 u124 u125 u126 u127 u128 u129 u130 u131 u132 u133 u134 u135 u136 u137 u138 u139 u140 u141 u142 u143 u144 u145 u146 u147 u148 u149 u150 u151 u152 u153 u154 u155 u156 u157 u158 u159 u160 u161 u162 u163 u164 u165 u166 u167 u168 u169 u170 u171 u172 u173 u174 u175 u176 u177 u178 u179 u180 u181 u182 u183 u184 u185 u186 u187 u188 u189 u190 u191 u192 u193 u194 u195 u196 u197 u198 u199 u200 u201 u202 u203 u204 u205 u206 u207 u208 u209 u210 u211 u212 u213 u214 u215 u216 u217 u218 u219 u220 u221 u222 u223 u224 u225 u226 u227 u228 u229 u230 u231 u232 u233 u234 u235 u236 u237 u238 u239 u240 u241 u242 u243 u244 u245 u246 u247 u248 u249 u250 u251 u252 u253 u254 u255 u256 u257 u258 u259 u260 u261 u262 u263 u264 u265 u266 u267 u268 u269 u270 u271 u272 u273 u274 u275 u276 u277 u278 u279 u280 u281 u282 u283 u284 u285 u286 u287 u288 u289 u290 u291 u292 u293 u294 u295 u296 u297 u298 u299 u300 u301 u302 u303 u304 u305 u306 u307 u308 u309 u310 u311 u312 u313 u314 u315 u316 u317 u318 u319 u320 u321 u322 u323 u324 u325 u326 u327 u328 u329 u330 u331 u332 u333 u334 u335 u336 u337 u338 u339 u340 u341 u342 u343 u344 u345 u346 u347 u348 : Value} {Q : Exit → Act → World → Prop} (base : Nat) (z : Sid) (r : Nat) (nx : Int) (Os : List Ob) (G : Int → Nat) (a : Option Addr) (cap : Nat) (col0 : Nat → Nat) (bx : Nat) (off n : Int) (L : Nat) (wp : World) (col : Nat → Nat) (aI : Option Addr) (cI : Nat) (aR : Option Addr) (n0 cR : Nat) (T : Nat → Sl) (V : Nat → List Value) (aL : Option Addr) (nL cL : Nat) (T2 : Nat → Sl) (V2 : Nat → List Value) (w : World) (hD : Duo wp base z r nx Os G a cap col0) (hb0 : wp.cell? ⟨bx, 0, none⟩ = some (.pointer (some ⟨z.s, 0, none⟩))) (hb1 : wp.cell? ⟨bx, 1, none⟩ = some (.pointer (some ⟨r, 0, none⟩))) (ho : i64ok off) (hL : L = Os.length) (hL64 : L ≤ 64) (hB : Bu wp w col aI L cI (Os.map Ob.id) aR n0 cR T V aL nL cL T2 V2) (hn0 : n0 ≤ 64) (hnL : nL ≤ 800) (hmod : ∀ i, i < L → (n0 + i) % L = i) (hV : ∀ k, k < n0 → V k = Dv Os off n L k) (hP : ∀ c a d v w, Q (.panic c) (Act.put a d v) w → Q (.panic c) a w)
    (hK : ∀ (col' : Nat → Nat) (aR' : Option Addr) (cR' : Nat) (T' : Nat → Sl) (V' : Nat → List Value) (w' : World), Bu wp w' col' aI L cI (Os.map Ob.id) aR' (n0 + L) cR' T' V' aL nL cL T2 V2 ∧ (∀ k, k < n0 + L → V' k = Dv Os off n L k) → ∀ (v6 v17 v18 v19 v20 v21 v69 v70 v71 v72 v73 v74 v75 v76 v77 v78 v79 v80 v81 v82 v83 v84 v85 v86 v87 v88 v89 v90 v91 v92 v93 v94 v95 v96 v97 v98 v99 v100 v101 v102 v103 v104 v105 v106 v107 v108 v109 v110 v111 : Value), Q (.exit 4) ⟨List.toArray (u0 :: .int .i64 off :: .int .i64 n :: u3 :: u4 :: u5 :: v6 :: .pointer (some ⟨bx, 0, none⟩) :: u8 :: u9 :: u10 :: .slice aI L cI :: .slice aR' (n0 + L) cR' :: u13 :: u14 :: u15 :: u16 :: v17 :: v18 :: v19 :: v20 :: v21 :: u22 :: u23 :: u24 :: u25 :: u26 :: u27 :: u28 :: u29 :: u30 :: u31 :: u32 :: u33 :: u34 :: u35 :: u36 :: u37 :: u38 :: u39 :: u40 :: u41 :: u42 :: u43 :: u44 :: u45 :: u46 :: u47 :: u48 :: u49 :: u50 :: u51 :: u52 :: u53 :: u54 :: u55 :: u56 :: u57 :: u58 :: u59 :: u60 :: u61 :: u62 :: u63 :: u64 :: u65 :: u66 :: u67 :: u68 :: v69 :: v70 :: v71 :: v72 :: v73 :: v74 :: v75 :: v76 :: v77 :: v78 :: v79 :: v80 :: v81 :: v82 :: v83 :: v84 :: v85 :: v86 :: v87 :: v88 :: v89 :: v90 :: v91 :: v92 :: v93 :: v94 :: v95 :: v96 :: v97 :: v98 :: v99 :: v100 :: v101 :: v102 :: v103 :: v104 :: v105 :: v106 :: v107 :: v108 :: v109 :: v110 :: v111 :: u112 :: u113 :: u114 :: u115 :: u116 :: u117 :: u118 :: u119 :: u120 :: u121 :: u122 :: u123 :: u124 :: u125 :: u126 :: u127 :: u128 :: u129 :: u130 :: u131 :: u132 :: u133 :: u134 :: u135 :: u136 :: u137 :: u138 :: u139 :: u140 :: u141 :: u142 :: u143 :: u144 :: u145 :: u146 :: u147 :: u148 :: u149 :: u150 :: u151 :: u152 :: u153 :: u154 :: u155 :: u156 :: u157 :: u158 :: u159 :: u160 :: u161 :: u162 :: u163 :: u164 :: u165 :: u166 :: u167 :: u168 :: u169 :: u170 :: u171 :: u172 :: u173 :: u174 :: u175 :: u176 :: u177 :: u178 :: u179 :: u180 :: u181 :: u182 :: u183 :: u184 :: u185 :: u186 :: u187 :: u188 :: u189 :: u190 :: u191 :: u192 :: u193 :: u194 :: u195 :: u196 :: u197 :: u198 :: u199 :: u200 :: u201 :: u202 :: u203 :: u204 :: u205 :: u206 :: u207 :: u208 :: u209 :: u210 :: u211 :: u212 :: u213 :: u214 :: u215 :: u216 :: u217 :: u218 :: u219 :: u220 :: u221 :: u222 :: u223 :: u224 :: u225 :: u226 :: u227 :: u228 :: u229 :: u230 :: u231 :: u232 :: u233 :: u234 :: u235 :: u236 :: u237 :: u238 :: u239 :: u240 :: u241 :: u242 :: u243 :: u244 :: u245 :: u246 :: u247 :: u248 :: u249 :: u250 :: u251 :: u252 :: u253 :: u254 :: u255 :: u256 :: u257 :: u258 :: u259 :: u260 :: u261 :: u262 :: u263 :: u264 :: u265 :: u266 :: u267 :: u268 :: u269 :: u270 :: u271 :: u272 :: u273 :: u274 :: u275 :: u276 :: u277 :: u278 :: u279 :: u280 :: u281 :: u282 :: u283 :: u284 :: u285 :: u286 :: u287 :: u288 :: u289 :: u290 :: u291 :: u292 :: u293 :: u294 :: u295 :: u296 :: u297 :: u298 :: u299 :: u300 :: u301 :: u302 :: u303 :: u304 :: u305 :: u306 :: u307 :: u308 :: u309 :: u310 :: u311 :: u312 :: u313 :: u314 :: u315 :: u316 :: u317 :: u318 :: u319 :: u320 :: u321 :: u322 :: u323 :: u324 :: u325 :: u326 :: u327 :: u328 :: u329 :: u330 :: u331 :: u332 :: u333 :: u334 :: u335 :: u336 :: u337 :: u338 :: u339 :: u340 :: u341 :: u342 :: u343 :: u344 :: u345 :: u346 :: u347 :: u348 :: []), []⟩ w') :
    Code.wp Try.prog (lpJ Try.f4.body 8) Q ⟨List.toArray (u0 :: .int .i64 off :: .int .i64 n :: u3 :: u4 :: u5 :: u6 :: .pointer (some ⟨bx, 0, none⟩) :: u8 :: u9 :: u10 :: .slice aI L cI :: .slice aR n0 cR :: u13 :: u14 :: u15 :: u16 :: .int .i64 0 :: u18 :: u19 :: u20 :: u21 :: u22 :: u23 :: u24 :: u25 :: u26 :: u27 :: u28 :: u29 :: u30 :: u31 :: u32 :: u33 :: u34 :: u35 :: u36 :: u37 :: u38 :: u39 :: u40 :: u41 :: u42 :: u43 :: u44 :: u45 :: u46 :: u47 :: u48 :: u49 :: u50 :: u51 :: u52 :: u53 :: u54 :: u55 :: u56 :: u57 :: u58 :: u59 :: u60 :: u61 :: u62 :: u63 :: u64 :: u65 :: u66 :: u67 :: u68 :: u69 :: u70 :: u71 :: u72 :: u73 :: u74 :: u75 :: u76 :: u77 :: u78 :: u79 :: u80 :: u81 :: u82 :: u83 :: u84 :: u85 :: u86 :: u87 :: u88 :: u89 :: u90 :: u91 :: u92 :: u93 :: u94 :: u95 :: u96 :: u97 :: u98 :: u99 :: u100 :: u101 :: u102 :: u103 :: u104 :: u105 :: u106 :: u107 :: u108 :: u109 :: u110 :: u111 :: u112 :: u113 :: u114 :: u115 :: u116 :: u117 :: u118 :: u119 :: u120 :: u121 :: u122 :: u123 :: u124 :: u125 :: u126 :: u127 :: u128 :: u129 :: u130 :: u131 :: u132 :: u133 :: u134 :: u135 :: u136 :: u137 :: u138 :: u139 :: u140 :: u141 :: u142 :: u143 :: u144 :: u145 :: u146 :: u147 :: u148 :: u149 :: u150 :: u151 :: u152 :: u153 :: u154 :: u155 :: u156 :: u157 :: u158 :: u159 :: u160 :: u161 :: u162 :: u163 :: u164 :: u165 :: u166 :: u167 :: u168 :: u169 :: u170 :: u171 :: u172 :: u173 :: u174 :: u175 :: u176 :: u177 :: u178 :: u179 :: u180 :: u181 :: u182 :: u183 :: u184 :: u185 :: u186 :: u187 :: u188 :: u189 :: u190 :: u191 :: u192 :: u193 :: u194 :: u195 :: u196 :: u197 :: u198 :: u199 :: u200 :: u201 :: u202 :: u203 :: u204 :: u205 :: u206 :: u207 :: u208 :: u209 :: u210 :: u211 :: u212 :: u213 :: u214 :: u215 :: u216 :: u217 :: u218 :: u219 :: u220 :: u221 :: u222 :: u223 :: u224 :: u225 :: u226 :: u227 :: u228 :: u229 :: u230 :: u231 :: u232 :: u233 :: u234 :: u235 :: u236 :: u237 :: u238 :: u239 :: u240 :: u241 :: u242 :: u243 :: u244 :: u245 :: u246 :: u247 :: u248 :: u249 :: u250 :: u251 :: u252 :: u253 :: u254 :: u255 :: u256 :: u257 :: u258 :: u259 :: u260 :: u261 :: u262 :: u263 :: u264 :: u265 :: u266 :: u267 :: u268 :: u269 :: u270 :: u271 :: u272 :: u273 :: u274 :: u275 :: u276 :: u277 :: u278 :: u279 :: u280 :: u281 :: u282 :: u283 :: u284 :: u285 :: u286 :: u287 :: u288 :: u289 :: u290 :: u291 :: u292 :: u293 :: u294 :: u295 :: u296 :: u297 :: u298 :: u299 :: u300 :: u301 :: u302 :: u303 :: u304 :: u305 :: u306 :: u307 :: u308 :: u309 :: u310 :: u311 :: u312 :: u313 :: u314 :: u315 :: u316 :: u317 :: u318 :: u319 :: u320 :: u321 :: u322 :: u323 :: u324 :: u325 :: u326 :: u327 :: u328 :: u329 :: u330 :: u331 :: u332 :: u333 :: u334 :: u335 :: u336 :: u337 :: u338 :: u339 :: u340 :: u341 :: u342 :: u343 :: u344 :: u345 :: u346 :: u347 :: u348 :: []), []⟩ w := by
  conv => arg 2; whnf
  have HP := hid hP
  have HK := hid hK
  have HB := hid hB
  have HD := hid hD
  have HL := hid hL
  have HMOD := hid hmod
  have HV := hid hV
  have HB0 := hid hb0
  have HB1 := hid hb1
  have hcI := hB.idr.read.cap_
  have hnx := hD.s.nx1
  clear hP hK hB hD hL hmod hV hb0 hb1
  go_loopw [12, 17] (CoR Os off n L n0 wp aI cI aL nL cL T2 V2) (fun _ v _ => L - ivN v)
  case atStart => exact ⟨0, _, _, _, _, _, rfl, rfl, Nat.zero_le _, HB.out, HV.out⟩
  case round =>
    clear HB HV
    obtain ⟨i, col, aR, cR, T, V, rfl, rfl, hi, hB, hV⟩ := hrel
    have HB := hid hB
    have HV := hid hV
    clear hB hV
    by_cases hlt : i < L
    · have hd : decide ((i : Int) < (L : Int)) = true := decide_eq_true (by omega)
      have hio : i < Os.length := by have := HL.out; omega
      obtain ⟨gI, rfl, _⟩ := HB.out.idr.spot (by omega)
      have c0 := HB.out.idr.read.cells _ rfl i _ (ints_get _ i (by simpa using hio))
      rw [addr_add0, List.getElem_map] at c0
      have hids := HD.out.s.ids _ (List.getElem_mem hio)
      have HDV : Hid (Dv Os off n L (n0 + i) = u8s (rdL Os Os[i].id off n)) := hid (by
        unfold Dv
        rw [HMOD.out i hlt, List.getD_eq_getElem?_getD, List.getElem?_eq_getElem (by simpa using hio)]
        simp)
      obtain ⟨id, hidd⟩ : ∃ id, id = Os[i].id := ⟨_, rfl⟩
      rw [← hidd] at c0 hids HDV
      have hi64 : i64ok id := ⟨by omega, by omega⟩
      obtain ⟨D, hDD⟩ : ∃ D, D = rdL Os id off n := ⟨_, rfl⟩
      obtain ⟨E, hE⟩ : ∃ E, E = rdE Os id off n := ⟨_, rfl⟩
      obtain ⟨d, hdd⟩ : ∃ d, d = D.length := ⟨_, rfl⟩
      have HSM : Hid (∀ x ∈ D, x < 256) := hid (by rw [hDD]; exact rdL_small HD.out.s id off n)
      have HRL := hid hDD.symm
      have HRE := hid hE.symm
      have HDL := hid hdd.symm
      have HVL : Hid (rvL (vw Os) id off n = D) := hid (by rw [vw_rdL, hDD])
      have HVE : Hid (rvE (vw Os) id off n = E) := hid (by rw [vw_rdE, hE])
      rw [← hDD] at HDV
      have HDW := hid (HD.out.later HB.out.bel)
      have b0 := cell_later HB.out.bel HB0.out
      have b1 := cell_later HB.out.bel HB1.out
      have HS : Hid (∀ U, Below wr.heap.size wr U → (U.cell? ⟨bx, 0, none⟩ = some (.pointer (some ⟨z.s, 0, none⟩)) ∧ U.cell? ⟨gI, i, none⟩ = some (.int .i64 id)) ∧ Below wr.heap.size wr U) := hid (fun U hU => ⟨⟨cell_later hU b0, cell_later hU c0⟩, hU⟩)
      have HS2 : Hid (∀ w4, Below wr.heap.size wr w4 → ∀ U, Below w4.heap.size w4 U → (U.cell? ⟨bx, 1, none⟩ = some (.pointer (some ⟨r, 0, none⟩)) ∧ U.cell? ⟨gI, i, none⟩ = some (.int .i64 id)) ∧ Below w4.heap.size w4 U) := hid (fun w4 h4 U hU => ⟨⟨cell_later hU (cell_later h4 b1), cell_later hU (cell_later h4 c0)⟩, hU⟩)
      clear hDD hE hdd hidd b0 b1 c0
      go_upto_region 21 with fail
      go_region_held3 (fun U => (U.cell? ⟨bx, 0, none⟩ = some (.pointer (some ⟨z.s, 0, none⟩)) ∧ U.cell? ⟨gI, i, none⟩ = some (.int .i64 id)) ∧ Below wr.heap.size wr U) (first | exact HS.out _ hb4.out | exact HS.out _ (Below.refl _ _).drew) (first
        | (go_at_call 10; refine (st_read z nx Os id off n _ (HDW.out.s.later (Below.refl _ _).drew) hi64).mono ?_; rintro e w4 ⟨b4, c4, rfl, O4, B4⟩; rw [HRL.out, HRE.out, HDL.out]; rw [HRL.out, HDL.out] at O4; have hb4 := hid (below_call (Below.refl wr.heap.size wr).drew B4); have HO4 := hid O4; clear O4 B4))
      have HD4 := hid (HDW.out.later hb4.out)
      have HS4 := hid (HS2.out w4 hb4.out)
      clear HS HS2
      go_upto_region 22 with fail
      go_region_held3 (fun U => (U.cell? ⟨bx, 1, none⟩ = some (.pointer (some ⟨r, 0, none⟩)) ∧ U.cell? ⟨gI, i, none⟩ = some (.int .i64 id)) ∧ Below w4.heap.size w4 U) (first | exact HS4.out _ hb5.out | exact HS4.out _ (Below.refl _ _).drew) (first
        | (go_at_call 18; refine (rread_any base r z.room z.n nx (vw Os) G a cap col0 id off n _ (HD4.out.q.later (Below.refl _ _).drew) ho).mono ?_; rintro e w5 ⟨b5, c5, rfl, O5, B5⟩; rw [HVL.out, HVE.out, HDL.out]; rw [HVL.out, HDL.out] at O5; have hb5 := hid (below_call (Below.refl w4.heap.size w4).drew B5); have HO5 := hid O5; clear O5 B5))
      have HR4 := hid (HO4.out.read.later hb5.out)
      have HR5 := hid HO5.out.read
      obtain ⟨a', c', u', col', hrun, hB'⟩ := HB.out.addRow hb4.out HO4.out hb5.out (by omega) (by omega)
      have HRUN := hid hrun
      have HB' := hid hB'
      clear hrun hB'
      go_wp2_with (first
        | (at_builtin; refine wpList_append_known rfl _ _ 29 rfl _ _ rfl rfl _ u' HRUN.out ?_)
        | (go_at_call 11; refine (same_any _ _ d d c4 c5 D D _ HR4.out HR5.out HSM.out HSM.out).mono ?_; rintro e w6 ⟨rfl, hw⟩; obtain rfl := hw.symm; rw [decide_eq_true rfl]))
      refine ⟨⟨i + 1, col', a', c', _, _, rfl, rfl, by omega, HB'.out, fun k hk => ?_⟩, by simp [ivN]; omega⟩
      by_cases ek : k = n0 + i
      · subst ek
        rw [upd_same, HDV.out]
      · rw [upd_old _ _ ek]
        exact HV.out k (by omega)
    · obtain rfl : i = L := by omega
      have hd : decide ((i : Int) < (i : Int)) = false := by simp
      go_wp2
      exact HK.out _ _ _ _ _ _ ⟨HB.out, HV.out⟩ ..
end Go.Proofs.Ytejkbeeffllpfaa
