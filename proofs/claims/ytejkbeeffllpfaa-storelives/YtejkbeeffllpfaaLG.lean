import Derived.Test.YtejkbeeffllpfaaLB
namespace Go.Proofs.Ytejkbeeffllpfaa
open Go.RowKit
set_option linter.unusedVariables false
set_option linter.unusedSimpArgs false

def ReRel (w : World) (L : Nat) (v : Value) (w' : World) : Prop := ∃ j : Nat, v = .int .i64 (j : Int) ∧ j ≤ L ∧ Below w.heap.size w w'
set_option maxRecDepth 1000000 in
set_option maxHeartbeats 4000000 in
theorem lv_b6 {u0 u1 u2 u4 u8 u9 u10 u11 u12 u13 u14 u15 u16 u17 u18 u19 u20 u22 u23 u24 u25 u26 u27 u28 u29 u30 u31 u32 u33 u34 u35 u36 u37 u38 u39 u40 u41 u42 u43 u44 u45 u46 u47 u48 u49 u50 u51 u52 u53 u54 u55 u56 u57 u58 u59 u60 u61 u62 u63 u64 u65 u66 u67 u68 u69 u70 u71 u72 u73 u74 u75 u76 u77 u78 u79 u80 u81 u82 u83 u84 u85 u86 u87 u88 u89 u90 u91 u92 u93 u94 u95 u96 u97 u98 u99 u100 u101 u102 u103 u104 u105 u106 u107 u108 u109 u110 u111 u112 u113 u114 u115 u116 u117 u118 u119 u120 u121 u122 u123 u124 u125 u126 u127 u128 u129 u130 u131 u132 u133 u134 u135 u136 u137 u138 u139 u140 u141 u142 u143 u144 u145 u146 u147 u148 u149 u150 u151 u152 u153 u154 u155 u156 u157 u158 u159 u160 u161 u162 u163 u164 u165 u166 u167 u168 u169 u170 u171 u172 u173 u174 u175 u176 u177 u178 u179 u180 u181 u182 u183 u184 u185 u186 u187 u188 u189 u190 u191 u192 u193 u194 u195 u196 u197 u198 u199 u200 u201 u202 u203 u204 u205 u206 u207 u208 u209 u210 u211 u212 u213 u214 u215 u216 u217 u218 u219 u220 u221 u222 u223 u224 u225 u226 u227 u228 u229 u230 u231 u232 u233 u234 u235 u236 u237 u238 u239 u240 u241 u242 u243 u244 u245 u246 u247 u248 u249 u250 u251 u252 u253 u254 u255 u256 u257 u258 u259 u260 u261 u262 u263 u264 u265 u266 u267 u268 u269 u270 u271 u272 u273 u274 u275 u276 u277 u278 u279 u280 u281 u282 u283 u284 u285 u286 u287 u288 u289 u290 u291 u292 u293 u294 u295 u296 u297 u298 u299 u300 u301 u302 u303 u304 u305 u306 u307 u308 u309 u310 : Value} {Q : Exit → Act → World → Prop} (base : Nat) (col : Nat → Nat) (z : Sid) (nx : Int) (Os : List Ob) (G : Int → Nat) (aI : Option Addr) (cI : Nat) (aS : Option Addr) (cS : Nat) (aW : Option Addr) (cW : Nat) (L : Nat) (w : World) (hV : Lv w base col z nx Os Os G aI cI aS cS aW cW) (hL : L = Os.length) (hL8 : L ≤ 8) 
    (hK : ∀ (w' : World), Below w.heap.size w w' → ∀ (v2 v21 v22 v23 v213 v214 v215 v216 v217 v218 v219 v220 v221 v222 v223 v224 v225 v226 v227 v228 v229 v230 v231 v232 v233 v234 v235 v236 v237 v238 v239 v240 v241 v242 : Value), Q (.exit 6) ⟨List.toArray (u0 :: u1 :: v2 :: .pointer (some ⟨z.s, 0, none⟩) :: u4 :: .slice aI L cI :: .slice aS L cS :: .slice aW L cW :: u8 :: u9 :: u10 :: u11 :: u12 :: u13 :: u14 :: u15 :: u16 :: u17 :: u18 :: u19 :: u20 :: v21 :: v22 :: v23 :: u24 :: u25 :: u26 :: u27 :: u28 :: u29 :: u30 :: u31 :: u32 :: u33 :: u34 :: u35 :: u36 :: u37 :: u38 :: u39 :: u40 :: u41 :: u42 :: u43 :: u44 :: u45 :: u46 :: u47 :: u48 :: u49 :: u50 :: u51 :: u52 :: u53 :: u54 :: u55 :: u56 :: u57 :: u58 :: u59 :: u60 :: u61 :: u62 :: u63 :: u64 :: u65 :: u66 :: u67 :: u68 :: u69 :: u70 :: u71 :: u72 :: u73 :: u74 :: u75 :: u76 :: u77 :: u78 :: u79 :: u80 :: u81 :: u82 :: u83 :: u84 :: u85 :: u86 :: u87 :: u88 :: u89 :: u90 :: u91 :: u92 :: u93 :: u94 :: u95 :: u96 :: u97 :: u98 :: u99 :: u100 :: u101 :: u102 :: u103 :: u104 :: u105 :: u106 :: u107 :: u108 :: u109 :: u110 :: u111 :: u112 :: u113 :: u114 :: u115 :: u116 :: u117 :: u118 :: u119 :: u120 :: u121 :: u122 :: u123 :: u124 :: u125 :: u126 :: u127 :: u128 :: u129 :: u130 :: u131 :: u132 :: u133 :: u134 :: u135 :: u136 :: u137 :: u138 :: u139 :: u140 :: u141 :: u142 :: u143 :: u144 :: u145 :: u146 :: u147 :: u148 :: u149 :: u150 :: u151 :: u152 :: u153 :: u154 :: u155 :: u156 :: u157 :: u158 :: u159 :: u160 :: u161 :: u162 :: u163 :: u164 :: u165 :: u166 :: u167 :: u168 :: u169 :: u170 :: u171 :: u172 :: u173 :: u174 :: u175 :: u176 :: u177 :: u178 :: u179 :: u180 :: u181 :: u182 :: u183 :: u184 :: u185 :: u186 :: u187 :: u188 :: u189 :: u190 :: u191 :: u192 :: u193 :: u194 :: u195 :: u196 :: u197 :: u198 :: u199 :: u200 :: u201 :: u202 :: u203 :: u204 :: u205 :: u206 :: u207 :: u208 :: u209 :: u210 :: u211 :: u212 :: v213 :: v214 :: v215 :: v216 :: v217 :: v218 :: v219 :: v220 :: v221 :: v222 :: v223 :: v224 :: v225 :: v226 :: v227 :: v228 :: v229 :: v230 :: v231 :: v232 :: v233 :: v234 :: v235 :: v236 :: v237 :: v238 :: v239 :: v240 :: v241 :: v242 :: u243 :: u244 :: u245 :: u246 :: u247 :: u248 :: u249 :: u250 :: u251 :: u252 :: u253 :: u254 :: u255 :: u256 :: u257 :: u258 :: u259 :: u260 :: u261 :: u262 :: u263 :: u264 :: u265 :: u266 :: u267 :: u268 :: u269 :: u270 :: u271 :: u272 :: u273 :: u274 :: u275 :: u276 :: u277 :: u278 :: u279 :: u280 :: u281 :: u282 :: u283 :: u284 :: u285 :: u286 :: u287 :: u288 :: u289 :: u290 :: u291 :: u292 :: u293 :: u294 :: u295 :: u296 :: u297 :: u298 :: u299 :: u300 :: u301 :: u302 :: u303 :: u304 :: u305 :: u306 :: u307 :: u308 :: u309 :: u310 :: []), []⟩ w') :
    Code.wp Try.prog (pI (pR (c3 Try.f3.body 12))) Q ⟨List.toArray (u0 :: u1 :: u2 :: .pointer (some ⟨z.s, 0, none⟩) :: u4 :: .slice aI L cI :: .slice aS L cS :: .slice aW L cW :: u8 :: u9 :: u10 :: u11 :: u12 :: u13 :: u14 :: u15 :: u16 :: u17 :: u18 :: u19 :: u20 :: .int .i64 0 :: u22 :: u23 :: u24 :: u25 :: u26 :: u27 :: u28 :: u29 :: u30 :: u31 :: u32 :: u33 :: u34 :: u35 :: u36 :: u37 :: u38 :: u39 :: u40 :: u41 :: u42 :: u43 :: u44 :: u45 :: u46 :: u47 :: u48 :: u49 :: u50 :: u51 :: u52 :: u53 :: u54 :: u55 :: u56 :: u57 :: u58 :: u59 :: u60 :: u61 :: u62 :: u63 :: u64 :: u65 :: u66 :: u67 :: u68 :: u69 :: u70 :: u71 :: u72 :: u73 :: u74 :: u75 :: u76 :: u77 :: u78 :: u79 :: u80 :: u81 :: u82 :: u83 :: u84 :: u85 :: u86 :: u87 :: u88 :: u89 :: u90 :: u91 :: u92 :: u93 :: u94 :: u95 :: u96 :: u97 :: u98 :: u99 :: u100 :: u101 :: u102 :: u103 :: u104 :: u105 :: u106 :: u107 :: u108 :: u109 :: u110 :: u111 :: u112 :: u113 :: u114 :: u115 :: u116 :: u117 :: u118 :: u119 :: u120 :: u121 :: u122 :: u123 :: u124 :: u125 :: u126 :: u127 :: u128 :: u129 :: u130 :: u131 :: u132 :: u133 :: u134 :: u135 :: u136 :: u137 :: u138 :: u139 :: u140 :: u141 :: u142 :: u143 :: u144 :: u145 :: u146 :: u147 :: u148 :: u149 :: u150 :: u151 :: u152 :: u153 :: u154 :: u155 :: u156 :: u157 :: u158 :: u159 :: u160 :: u161 :: u162 :: u163 :: u164 :: u165 :: u166 :: u167 :: u168 :: u169 :: u170 :: u171 :: u172 :: u173 :: u174 :: u175 :: u176 :: u177 :: u178 :: u179 :: u180 :: u181 :: u182 :: u183 :: u184 :: u185 :: u186 :: u187 :: u188 :: u189 :: u190 :: u191 :: u192 :: u193 :: u194 :: u195 :: u196 :: u197 :: u198 :: u199 :: u200 :: u201 :: u202 :: u203 :: u204 :: u205 :: u206 :: u207 :: u208 :: u209 :: u210 :: u211 :: u212 :: u213 :: u214 :: u215 :: u216 :: u217 :: u218 :: u219 :: u220 :: u221 :: u222 :: u223 :: u224 :: u225 :: u226 :: u227 :: u228 :: u229 :: u230 :: u231 :: u232 :: u233 :: u234 :: u235 :: u236 :: u237 :: u238 :: u239 :: u240 :: u241 :: u242 :: u243 :: u244 :: u245 :: u246 :: u247 :: u248 :: u249 :: u250 :: u251 :: u252 :: u253 :: u254 :: u255 :: u256 :: u257 :: u258 :: u259 :: u260 :: u261 :: u262 :: u263 :: u264 :: u265 :: u266 :: u267 :: u268 :: u269 :: u270 :: u271 :: u272 :: u273 :: u274 :: u275 :: u276 :: u277 :: u278 :: u279 :: u280 :: u281 :: u282 :: u283 :: u284 :: u285 :: u286 :: u287 :: u288 :: u289 :: u290 :: u291 :: u292 :: u293 :: u294 :: u295 :: u296 :: u297 :: u298 :: u299 :: u300 :: u301 :: u302 :: u303 :: u304 :: u305 :: u306 :: u307 :: u308 :: u309 :: u310 :: []), []⟩ w := by
  conv => arg 2; whnf
  have HK := hid hK
  have HV := hid hV
  have HL := hid hL
  have hcI := hV.rI.row.cap_
  have hcS := hV.rS.row.cap_
  have hcW := hV.rW.row.cap_
  rw [← hL] at hcI hcS hcW
  have hnx := hV.st.nx1
  clear hK hV hL
  go_loopw [21] (ReRel w L) (fun v _ => L - ivN v)
  case atStart => exact ⟨0, rfl, Nat.zero_le _, Below.refl _ _⟩
  case round =>
    obtain ⟨j, rfl, hj, hB⟩ := hrel
    have HB := hid hB
    have HVJ := hid (HV.out.later hB)
    clear hB
    by_cases hjl : j < L
    · have hdj : decide ((j : Int) < (L : Int)) = true := decide_eq_true (by omega)
      have hjo : j < Os.length := by have := HL.out; omega
      obtain ⟨bI, oI, rfl, hcI2⟩ := HV.out.rI.row.plain (by omega)
      obtain ⟨bS, oS, rfl, hcS2⟩ := HV.out.rS.row.plain (by omega)
      obtain ⟨bW, oW, rfl, hcW2⟩ := HV.out.rW.row.plain (by omega)
      have x0 := cell_later HB.out (hcI2 j _ (ints_get _ j (by simpa using hjo)))
      have x1 := cell_later HB.out (hcS2 j _ (ints_get _ j (by simpa using hjo)))
      have x2 := cell_later HB.out (hcW2 j (wv G Os[j]) (by simp [hjo]))
      rw [List.getElem_map] at x0 x1
      have HAT := hid (at_at HV.out.st.rise hjo)
      have hsm := HV.out.sml _ (List.getElem_mem hjo)
      have HCL := hid (HVJ.out.cel _ (List.getElem_mem hjo))
      have HSM := hid (HV.out.st.small _ (List.getElem_mem hjo))
      have hids := HV.out.st.ids _ (List.getElem_mem hjo)
      unfold wv at x2
      obtain ⟨ob, hob⟩ : ∃ ob, ob = Os[j] := ⟨_, rfl⟩
      rw [← hob] at x0 x1 x2 HAT hsm HCL HSM hids
      have HRD := hid (rdL_all HAT.out hsm)
      have HROW := hid (HCL.out.row ob.data.length (Nat.le_refl _))
      obtain ⟨id, hidd⟩ : ∃ id, id = ob.id := ⟨_, rfl⟩
      obtain ⟨g, hg⟩ : ∃ g, g = G ob.id := ⟨_, rfl⟩
      obtain ⟨d, hd⟩ : ∃ d, d = ob.data.length := ⟨_, rfl⟩
      obtain ⟨A, hA⟩ : ∃ A, A = ob.data := ⟨_, rfl⟩
      rw [← hg, ← hd] at x2
      rw [← hidd] at x0 hids HRD
      rw [← hd] at x1 hsm HRD
      rw [← hA] at HRD HSM
      rw [← hg, ← hd, ← hA] at HROW
      have HAL : Hid (A.length = d) := hid (by rw [hA, hd])
      have hi64 : i64ok id := ⟨by omega, by omega⟩
      have HS : Hid (∀ U, Below wr.heap.size wr U → (U.cell? ⟨bI, oI + j, none⟩ = some (.int .i64 id) ∧ U.cell? ⟨bS, oS + j, none⟩ = some (.int .i64 (d : Int))) ∧ Below wr.heap.size wr U) := hid (fun U hU => ⟨⟨cell_later hU x0, cell_later hU x1⟩, hU⟩)
      have HX2 := hid x2
      clear hcI2 hcS2 hcW2 hob hidd hg hd hA x0 x1 x2 HAT HCL
      go_upto_region 38 with fail
      go_region_held3 (fun U => (U.cell? ⟨bI, oI + j, none⟩ = some (.int .i64 id) ∧ U.cell? ⟨bS, oS + j, none⟩ = some (.int .i64 (d : Int))) ∧ Below wr.heap.size wr U) (first | exact HS.out _ hb4.out | exact HS.out _ (Below.refl _ _).drew) (first
        | (go_at_call 10; refine (st_read z nx Os id 0 (d : Int) _ (HVJ.out.st.later (Below.refl _ _).drew) hi64).mono ?_; rintro e w4 ⟨b4, c4, rfl, O4, B4⟩; rw [HRD.out.1, HRD.out.2, HAL.out]; rw [HRD.out.2, HAL.out] at O4; have hb4 := hid (below_call (Below.refl wr.heap.size wr).drew B4); have HO4 := hid O4; clear O4 B4))
      have x3 := cell_later hb4.out HX2.out
      have HRW := hid (HROW.out.later hb4.out)
      go_wp2_with (first | (go_at_call 11; refine (same_any _ _ d d c4 d A A _ HO4.out.read HRW.out HSM.out HSM.out).mono ?_; rintro e w5 ⟨rfl, hw⟩; obtain rfl := hw.symm; rw [decide_eq_true rfl]))
      exact ⟨⟨j + 1, rfl, by omega, below_call HB.out hb4.out⟩, by simp [ivN]; omega⟩
    · obtain rfl : j = L := by omega
      have hdj : decide ((j : Int) < (j : Int)) = false := by simp
      go_wp2
      exact HK.out _ HB.out ..
end Go.Proofs.Ytejkbeeffllpfaa
