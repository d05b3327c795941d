import Derived.Test.YtejkbeeffllpfaaFB
namespace Go.Proofs.Ytejkbeeffllpfaa
open Go.RowKit
set_option linter.unusedVariables false
set_option linter.unusedSimpArgs false

def CoO (Os : List Ob) (off n : Int) (L : Nat) (wp : World) (aI : Option Addr) (cI : Nat) (l l2 v : Value) (w' : World) : Prop := ∃ (t : Nat) (col : Nat → Nat) (aR : Option Addr) (cR : Nat) (T : Nat → Sl) (V : Nat → List Value) (aL : Option Addr) (cL : Nat) (T2 : Nat → Sl) (V2 : Nat → List Value), l = .slice aR (t * L) cR ∧ l2 = .slice aL t cL ∧ v = .int .i64 (t : Int) ∧ t ≤ 2 ∧ Bu wp w' col aI L cI (Os.map Ob.id) aR (t * L) cR T V aL t cL T2 V2 ∧ (∀ k, k < t * L → V k = Dv Os off n L k) ∧ ∀ k, k < t → V2 k = ints (Os.map Ob.id)
set_option maxRecDepth 1000000 in
set_option maxHeartbeats 4000000 in
theorem fr_b2 {u0 u3 u4 u5 u6 u8 u9 u10 u13 u15 u17 u18 u19 u20 u21 u22 u23 u24 u25 u26 u27 u28 u29 u30 u31 u32 u33 u34 u35 u36 u37 u38 u39 u40 u41 u42 u43 u44 u45 u46 u47 u48 u49 u50 u51 u52 u53 u54 u55 u56 u57 u58 u59 u60 u61 u62 u63 u64 u65 u66 u67 u68 u69 u70 u71 u72 u73 u74 u75 u76 u77 u78 u79 u80 u81 u82 u83 u84 u85 u86 u87 u88 u89 u90 u91 u92 u93 u94 u95 u96 u97 u98 u99 u100 u101 u102 u103 u104 u105 u106 u107 u108 u109 u110 u111 u112 u113 u114 u115 u116 u117 u118 u119 u120 u121 u122 u123 u124 u125 u126 u127 u128 u129 u130 u131 u132 u133 u134 u135 u136 u137 u138 u139 u140 u141 u142 u143 u144 u145 u146 u147 u148 u149 u150 u151 u152 u153 u154 u155 u156 u157 u158 u159 u160 u161 u162 u163 u164 u165 u166 u167 u168 u169 u170 u171 u172 u173 u174 u175 u176 u177 u178 u179 u180 u181 u182 u183 u184 u185 u186 u187 u188 u189 u190 u191 u192 u193 u194 u195 u196 u197 u198 u199 u200 u201 u202 u203 u204 u205 u206 u207 u208 u209 u210 u211 u212 u213 u214 u215 u216 u217 u218 u219 u220 u221 u222 u223 u224 u225 u226 u227 u228 u229 u230 u231 u232 u233 u234 u235 u236 u237 u238 u239 u240 u241 u242 u243 u244 u245 u246 u247 u248 u249 u250 u251 u252 u253 u254 u255 u256 u257 u258 u259 u260 u261 u262 u263 u264 u265 u266 u267 u268 u269 u270 u271 u272 u273 u274 u275 u276 u277 u278 u279 u280 u281 u282 u283 u284 u285 u286 u287 u288 u289 u290 u291 u292 u293 u294 u295 u296 u297 u298 u299 u300 u301 u302 u303 u304 u305 u306 u307 u308 u309 u310 u311 u312 u313 u314 u315 u316 u317 u318 u319 u320 u321 u322 u323 u324 u325 u326 u327 u328 u329 u330 u331 u332 u333 u334 u335 u336 u337 u338 u339 u340 u341 u342 u343 u344 u345 u346 u347 u348 : Value} {Q : Exit → Act → World → Prop} (base : Nat) (z : Sid) (r : Nat) (nx : Int) (Os : List Ob) (G : Int → Nat) (a : Option Addr) (cap : Nat) (col0 : Nat → Nat) (bx : Nat) (off n : Int) (L : Nat) (wp : World) (col : Nat → Nat) (aI : Option Addr) (cI : Nat) (T : Nat → Sl) (V : Nat → List Value) (T2 : Nat → Sl) (V2 : Nat → List Value) (w : World) (hD : Duo wp base z r nx Os G a cap col0) (hb0 : wp.cell? ⟨bx, 0, none⟩ = some (.pointer (some ⟨z.s, 0, none⟩))) (hb1 : wp.cell? ⟨bx, 1, none⟩ = some (.pointer (some ⟨r, 0, none⟩))) (ho : i64ok off) (hL : L = Os.length) (hL64 : L ≤ 64) (hB : Bu wp w col aI L cI (Os.map Ob.id) none 0 0 T V none 0 0 T2 V2) (hP : ∀ c a d v w, Q (.panic c) (Act.put a d v) w → Q (.panic c) a w)
    (hK : ∀ (col' : Nat → Nat) (aR' : Option Addr) (cR' : Nat) (T' : Nat → Sl) (V' : Nat → List Value) (aL' : Option Addr) (cL' : Nat) (T2' : Nat → Sl) (V2' : Nat → List Value) (w' : World), Bu wp w' col' aI L cI (Os.map Ob.id) aR' (2 * L) cR' T' V' aL' 2 cL' T2' V2' ∧ (∀ k, k < 2 * L → V' k = Dv Os off n L k) ∧ (∀ k, k < 2 → V2' k = ints (Os.map Ob.id)) → ∀ (v6 v16 v17 v18 v19 v20 v21 v65 v66 v67 v68 v69 v70 v71 v72 v73 v74 v75 v76 v77 v78 v79 v80 v81 v82 v83 v84 v85 v86 v87 v88 v89 v90 v91 v92 v93 v94 v95 v96 v97 v98 v99 v100 v101 v102 v103 v104 v105 v106 v107 v108 v109 v110 v111 v112 v113 v114 v115 v116 v117 : Value), Q (.exit 2) ⟨List.toArray (u0 :: .int .i64 off :: .int .i64 n :: u3 :: u4 :: u5 :: v6 :: .pointer (some ⟨bx, 0, none⟩) :: u8 :: u9 :: u10 :: .slice aI L cI :: .slice aR' (2 * L) cR' :: u13 :: .slice aL' 2 cL' :: u15 :: v16 :: v17 :: v18 :: v19 :: v20 :: v21 :: u22 :: u23 :: u24 :: u25 :: u26 :: u27 :: u28 :: u29 :: u30 :: u31 :: u32 :: u33 :: u34 :: u35 :: u36 :: u37 :: u38 :: u39 :: u40 :: u41 :: u42 :: u43 :: u44 :: u45 :: u46 :: u47 :: u48 :: u49 :: u50 :: u51 :: u52 :: u53 :: u54 :: u55 :: u56 :: u57 :: u58 :: u59 :: u60 :: u61 :: u62 :: u63 :: u64 :: v65 :: v66 :: v67 :: v68 :: v69 :: v70 :: v71 :: v72 :: v73 :: v74 :: v75 :: v76 :: v77 :: v78 :: v79 :: v80 :: v81 :: v82 :: v83 :: v84 :: v85 :: v86 :: v87 :: v88 :: v89 :: v90 :: v91 :: v92 :: v93 :: v94 :: v95 :: v96 :: v97 :: v98 :: v99 :: v100 :: v101 :: v102 :: v103 :: v104 :: v105 :: v106 :: v107 :: v108 :: v109 :: v110 :: v111 :: v112 :: v113 :: v114 :: v115 :: v116 :: v117 :: u118 :: u119 :: u120 :: u121 :: u122 :: u123 :: u124 :: u125 :: u126 :: u127 :: u128 :: u129 :: u130 :: u131 :: u132 :: u133 :: u134 :: u135 :: u136 :: u137 :: u138 :: u139 :: u140 :: u141 :: u142 :: u143 :: u144 :: u145 :: u146 :: u147 :: u148 :: u149 :: u150 :: u151 :: u152 :: u153 :: u154 :: u155 :: u156 :: u157 :: u158 :: u159 :: u160 :: u161 :: u162 :: u163 :: u164 :: u165 :: u166 :: u167 :: u168 :: u169 :: u170 :: u171 :: u172 :: u173 :: u174 :: u175 :: u176 :: u177 :: u178 :: u179 :: u180 :: u181 :: u182 :: u183 :: u184 :: u185 :: u186 :: u187 :: u188 :: u189 :: u190 :: u191 :: u192 :: u193 :: u194 :: u195 :: u196 :: u197 :: u198 :: u199 :: u200 :: u201 :: u202 :: u203 :: u204 :: u205 :: u206 :: u207 :: u208 :: u209 :: u210 :: u211 :: u212 :: u213 :: u214 :: u215 :: u216 :: u217 :: u218 :: u219 :: u220 :: u221 :: u222 :: u223 :: u224 :: u225 :: u226 :: u227 :: u228 :: u229 :: u230 :: u231 :: u232 :: u233 :: u234 :: u235 :: u236 :: u237 :: u238 :: u239 :: u240 :: u241 :: u242 :: u243 :: u244 :: u245 :: u246 :: u247 :: u248 :: u249 :: u250 :: u251 :: u252 :: u253 :: u254 :: u255 :: u256 :: u257 :: u258 :: u259 :: u260 :: u261 :: u262 :: u263 :: u264 :: u265 :: u266 :: u267 :: u268 :: u269 :: u270 :: u271 :: u272 :: u273 :: u274 :: u275 :: u276 :: u277 :: u278 :: u279 :: u280 :: u281 :: u282 :: u283 :: u284 :: u285 :: u286 :: u287 :: u288 :: u289 :: u290 :: u291 :: u292 :: u293 :: u294 :: u295 :: u296 :: u297 :: u298 :: u299 :: u300 :: u301 :: u302 :: u303 :: u304 :: u305 :: u306 :: u307 :: u308 :: u309 :: u310 :: u311 :: u312 :: u313 :: u314 :: u315 :: u316 :: u317 :: u318 :: u319 :: u320 :: u321 :: u322 :: u323 :: u324 :: u325 :: u326 :: u327 :: u328 :: u329 :: u330 :: u331 :: u332 :: u333 :: u334 :: u335 :: u336 :: u337 :: u338 :: u339 :: u340 :: u341 :: u342 :: u343 :: u344 :: u345 :: u346 :: u347 :: u348 :: []), []⟩ w') :
    Code.wp Try.prog (lpO Try.f4.body 8) Q ⟨List.toArray (u0 :: .int .i64 off :: .int .i64 n :: u3 :: u4 :: u5 :: u6 :: .pointer (some ⟨bx, 0, none⟩) :: u8 :: u9 :: u10 :: .slice aI L cI :: .slice none 0 0 :: u13 :: .slice none 0 0 :: u15 :: .int .i64 0 :: u17 :: u18 :: u19 :: u20 :: u21 :: u22 :: u23 :: u24 :: u25 :: u26 :: u27 :: u28 :: u29 :: u30 :: u31 :: u32 :: u33 :: u34 :: u35 :: u36 :: u37 :: u38 :: u39 :: u40 :: u41 :: u42 :: u43 :: u44 :: u45 :: u46 :: u47 :: u48 :: u49 :: u50 :: u51 :: u52 :: u53 :: u54 :: u55 :: u56 :: u57 :: u58 :: u59 :: u60 :: u61 :: u62 :: u63 :: u64 :: u65 :: u66 :: u67 :: u68 :: u69 :: u70 :: u71 :: u72 :: u73 :: u74 :: u75 :: u76 :: u77 :: u78 :: u79 :: u80 :: u81 :: u82 :: u83 :: u84 :: u85 :: u86 :: u87 :: u88 :: u89 :: u90 :: u91 :: u92 :: u93 :: u94 :: u95 :: u96 :: u97 :: u98 :: u99 :: u100 :: u101 :: u102 :: u103 :: u104 :: u105 :: u106 :: u107 :: u108 :: u109 :: u110 :: u111 :: u112 :: u113 :: u114 :: u115 :: u116 :: u117 :: u118 :: u119 :: u120 :: u121 :: u122 :: u123 :: u124 :: u125 :: u126 :: u127 :: u128 :: u129 :: u130 :: u131 :: u132 :: u133 :: u134 :: u135 :: u136 :: u137 :: u138 :: u139 :: u140 :: u141 :: u142 :: u143 :: u144 :: u145 :: u146 :: u147 :: u148 :: u149 :: u150 :: u151 :: u152 :: u153 :: u154 :: u155 :: u156 :: u157 :: u158 :: u159 :: u160 :: u161 :: u162 :: u163 :: u164 :: u165 :: u166 :: u167 :: u168 :: u169 :: u170 :: u171 :: u172 :: u173 :: u174 :: u175 :: u176 :: u177 :: u178 :: u179 :: u180 :: u181 :: u182 :: u183 :: u184 :: u185 :: u186 :: u187 :: u188 :: u189 :: u190 :: u191 :: u192 :: u193 :: u194 :: u195 :: u196 :: u197 :: u198 :: u199 :: u200 :: u201 :: u202 :: u203 :: u204 :: u205 :: u206 :: u207 :: u208 :: u209 :: u210 :: u211 :: u212 :: u213 :: u214 :: u215 :: u216 :: u217 :: u218 :: u219 :: u220 :: u221 :: u222 :: u223 :: u224 :: u225 :: u226 :: u227 :: u228 :: u229 :: u230 :: u231 :: u232 :: u233 :: u234 :: u235 :: u236 :: u237 :: u238 :: u239 :: u240 :: u241 :: u242 :: u243 :: u244 :: u245 :: u246 :: u247 :: u248 :: u249 :: u250 :: u251 :: u252 :: u253 :: u254 :: u255 :: u256 :: u257 :: u258 :: u259 :: u260 :: u261 :: u262 :: u263 :: u264 :: u265 :: u266 :: u267 :: u268 :: u269 :: u270 :: u271 :: u272 :: u273 :: u274 :: u275 :: u276 :: u277 :: u278 :: u279 :: u280 :: u281 :: u282 :: u283 :: u284 :: u285 :: u286 :: u287 :: u288 :: u289 :: u290 :: u291 :: u292 :: u293 :: u294 :: u295 :: u296 :: u297 :: u298 :: u299 :: u300 :: u301 :: u302 :: u303 :: u304 :: u305 :: u306 :: u307 :: u308 :: u309 :: u310 :: u311 :: u312 :: u313 :: u314 :: u315 :: u316 :: u317 :: u318 :: u319 :: u320 :: u321 :: u322 :: u323 :: u324 :: u325 :: u326 :: u327 :: u328 :: u329 :: u330 :: u331 :: u332 :: u333 :: u334 :: u335 :: u336 :: u337 :: u338 :: u339 :: u340 :: u341 :: u342 :: u343 :: u344 :: u345 :: u346 :: u347 :: u348 :: []), []⟩ w := by
  conv => arg 2; whnf
  have HP := hid hP
  have HK := hid hK
  have HB := hid hB
  have HD := hid hD
  have HL := hid hL
  have HB0 := hid hb0
  have HB1 := hid hb1
  clear hP hK hB hD hL hb0 hb1
  go_loopw [12, 14, 16] (CoO Os off n L wp aI cI) (fun _ _ v _ => 2 - ivN v)
  case atStart => exact ⟨0, _, _, _, _, _, _, _, _, _, by rw [Nat.zero_mul], rfl, rfl, Nat.zero_le _, by rw [Nat.zero_mul]; exact HB.out, fun k hk => by omega, fun k hk => by omega⟩
  case round =>
    clear HB
    obtain ⟨t, col, aR, cR, T, V, aL, cL, T2, V2, rfl, rfl, rfl, ht, hB, hV, hV2⟩ := hrel
    have HB := hid hB
    have HV := hid hV
    have HV2 := hid hV2
    clear hB hV hV2
    by_cases hlt : t < 2
    · have hd : decide ((t : Int) < 2) = true := decide_eq_true (by omega)
      obtain ⟨n0, hn0⟩ : ∃ n0, n0 = t * L := ⟨_, rfl⟩
      have hn64 : n0 ≤ 64 := by
        have h1 : t * L ≤ 1 * L := Nat.mul_le_mul_right _ (by omega)
        omega
      have HMOD : Hid (∀ i, i < L → (n0 + i) % L = i) := hid (fun i hi => by rw [hn0, Nat.mul_comm, Nat.mul_add_mod, Nat.mod_eq_of_lt hi])
      have HN : Hid (n0 + L = (t + 1) * L) := hid (by rw [hn0, Nat.add_mul, Nat.one_mul])
      rw [← hn0] at HB HV ⊢
      clear hn0
      go_upto_region 19 with fail
      refine fr_b4 base z r nx Os G a cap col0 bx off n L wp col aI cI aR n0 cR T V aL t cL T2 V2 wr HD.out HB0.out HB1.out ho HL.out hL64 HB.out hn64 (by omega) HMOD.out HV.out HP.out ?_
      rintro col3 aR3 cR3 T3 V3 w3 ⟨hB3, hV3⟩
      intros
      have HB3 := hid hB3
      have HV3 := hid hV3
      have HD3 := hid (HD.out.later hB3.bel)
      have b0 := cell_later hB3.bel HB0.out
      clear hB3 hV3 HB HV
      go_wp2_with (first
        | (at_builtin; have hq_ := mk1; clear hq_; refine wpList_append_known rfl _ _ 52 rfl _ _ rfl rfl _ u' HRUN.out ?_)
        | (go_at_call 14; refine (st_ids z nx Os _ HD3.out.s).mono ?_; rintro e w4 ⟨b4, c4, rfl, O4, B4⟩; rw [← HL.out]; rw [← HL.out] at O4; obtain ⟨a', c', u', col', hrun, hB'⟩ := HB3.out.addList B4 O4 (Below.refl _ _) (by omega) (by omega); have HRUN := hid hrun; have HB' := hid hB'; clear hrun hB' O4 B4; obtain ⟨mk1, _⟩ : ∃ m : Nat, m = 0 := ⟨0, rfl⟩))
      have HB'' := HB'
      have HV'' := HV3
      rw [HN.out] at HB'' HV''
      refine ⟨⟨t + 1, col', aR3, cR3, T3, V3, a', c', _, _, by rw [HN.out], rfl, rfl, by omega, HB''.out, HV''.out, fun k hk => ?_⟩, by simp [ivN]; omega⟩
      by_cases ek : k = t
      · subst ek
        rw [upd_same]
      · rw [upd_old _ _ ek]
        exact HV2.out k (by omega)
    · have hd : decide ((t : Int) < 2) = false := decide_eq_false (by omega)
      go_wp2
      obtain rfl : t = 2 := by omega
      exact HK.out _ _ _ _ _ _ _ _ _ _ ⟨HB.out, HV.out, HV2.out⟩ ..
end Go.Proofs.Ytejkbeeffllpfaa
