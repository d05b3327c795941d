import Derived.Test.YtnjadfgfpebkdaaGreatXA
namespace Go.Proofs.YtnjadfgfpebkdaaGreat.D
open Go.RowKit
open Go.Proofs.YtnjadfgfpebkdaaGreat.H (B64 Cp cEq neqC)
set_option linter.unusedVariables false
set_option linter.unusedSimpArgs false
set_option maxRecDepth 1000000 in
set_option maxHeartbeats 8000000 in
theorem rf_6 {u0 u1 u2 u3 u4 u5 u8 u9 u10 u11 u12 u13 u14 u15 u16 u17 u18 u19 u20 u21 u22 u24 u25 u26 u27 u28 u29 u30 u31 u32 u33 u34 u35 u36 u37 u38 u39 u40 u41 u42 u43 u44 u45 u46 u47 u48 u49 u50 u51 u52 u53 u54 u55 u56 u57 u58 u59 u60 u61 u62 u63 u64 u65 u66 u67 u68 u69 u70 u71 u72 u73 u74 u75 u76 u77 u78 u79 u80 u81 u82 u83 u84 u85 u86 u87 u88 u89 u90 u91 u92 u93 u94 u95 u96 u97 u98 u99 u100 u101 u102 u103 u104 u105 u106 u107 u108 u109 u110 u111 u112 u113 u114 u115 u116 u117 u118 u119 u120 u121 u122 u123 u124 u125 u126 u127 u128 u129 u130 u131 u132 u133 u134 u135 u136 u137 u138 u139 u140 u141 u142 u143 u144 u145 u146 u147 u148 u149 u150 u151 u152 u153 u154 u155 u156 u157 u158 u159 u160 u161 u162 u163 u164 u165 u166 u167 u168 u169 u170 u171 u172 u173 u174 u175 u176 u177 u178 u179 u180 u181 u182 u183 u184 u185 u186 u187 u188 u189 u190 u191 u192 u193 u194 u195 u196 u197 u198 u199 u200 u201 u202 u203 u204 u205 u206 u207 u208 u209 u210 u211 u212 u213 u214 u215 u216 u217 u218 u219 u220 u221 u222 u223 u224 u225 u226 u227 u228 u229 u230 u231 u232 u233 u234 u235 u236 u237 u238 u239 u240 u241 u242 u243 u244 u245 u246 u247 u248 u249 u250 u251 u252 u253 u254 u255 u256 u257 u258 u259 : Value} {Qx : Exit → Act → World → Prop} {col : Nat → Nat} (aA aM : Option Addr) (nA cA i cM : Nat) (T T2 : Nat → Sl) (K K2 : Nat → List Cp) (w0 w : World) (hA : Sf w w0.heap.size col 1 100 aA nA cA T K) (hM : Sf w w0.heap.size col 2 100 aM nA cM T2 K2) (hm : Mk nA K nA 0) (hk : ∀ j, j < nA → K2 j = K j ++ [mk j]) (hin : i < nA) (hnA : nA ≤ 100) (hl : ∀ j, j < nA → (K j).length ≤ 256)
    (hK : ∀ (w' : World), w' = w → ∀ (v2 v24 v207 v208 v209 v210 v211 v212 v213 v214 v215 v216 v217 v218 v219 v220 v221 v222 v223 v224 v225 v226 v227 v228 v229 v230 v231 v232 v233 v234 v235 v236 v237 v238 v239 v240 v241 v242 v243 v244 v245 v246 v247 v248 v249 v250 v251 v252 v253 v254 v255 v256 : Value), Qx .normal ⟨List.toArray (u0 :: u1 :: v2 :: u3 :: u4 :: u5 :: .slice aA nA cA :: .slice aM nA cM :: u8 :: u9 :: u10 :: u11 :: u12 :: u13 :: u14 :: u15 :: u16 :: u17 :: u18 :: u19 :: u20 :: u21 :: u22 :: .int .i64 ((i : Int) + 1) :: v24 :: u25 :: u26 :: u27 :: u28 :: u29 :: u30 :: u31 :: u32 :: u33 :: u34 :: u35 :: u36 :: u37 :: u38 :: u39 :: u40 :: u41 :: u42 :: u43 :: u44 :: u45 :: u46 :: u47 :: u48 :: u49 :: u50 :: u51 :: u52 :: u53 :: u54 :: u55 :: u56 :: u57 :: u58 :: u59 :: u60 :: u61 :: u62 :: u63 :: u64 :: u65 :: u66 :: u67 :: u68 :: u69 :: u70 :: u71 :: u72 :: u73 :: u74 :: u75 :: u76 :: u77 :: u78 :: u79 :: u80 :: u81 :: u82 :: u83 :: u84 :: u85 :: u86 :: u87 :: u88 :: u89 :: u90 :: u91 :: u92 :: u93 :: u94 :: u95 :: u96 :: u97 :: u98 :: u99 :: u100 :: u101 :: u102 :: u103 :: u104 :: u105 :: u106 :: u107 :: u108 :: u109 :: u110 :: u111 :: u112 :: u113 :: u114 :: u115 :: u116 :: u117 :: u118 :: u119 :: u120 :: u121 :: u122 :: u123 :: u124 :: u125 :: u126 :: u127 :: u128 :: u129 :: u130 :: u131 :: u132 :: u133 :: u134 :: u135 :: u136 :: u137 :: u138 :: u139 :: u140 :: u141 :: u142 :: u143 :: u144 :: u145 :: u146 :: u147 :: u148 :: u149 :: u150 :: u151 :: u152 :: u153 :: u154 :: u155 :: u156 :: u157 :: u158 :: u159 :: u160 :: u161 :: u162 :: u163 :: u164 :: u165 :: u166 :: u167 :: u168 :: u169 :: u170 :: u171 :: u172 :: u173 :: u174 :: u175 :: u176 :: u177 :: u178 :: u179 :: u180 :: u181 :: u182 :: u183 :: u184 :: u185 :: u186 :: u187 :: u188 :: u189 :: u190 :: u191 :: u192 :: u193 :: u194 :: u195 :: u196 :: u197 :: u198 :: u199 :: u200 :: u201 :: u202 :: u203 :: u204 :: u205 :: u206 :: v207 :: v208 :: v209 :: v210 :: v211 :: v212 :: v213 :: v214 :: v215 :: v216 :: v217 :: v218 :: v219 :: v220 :: v221 :: v222 :: v223 :: v224 :: v225 :: v226 :: v227 :: v228 :: v229 :: v230 :: v231 :: v232 :: v233 :: v234 :: v235 :: v236 :: v237 :: v238 :: v239 :: v240 :: v241 :: v242 :: v243 :: v244 :: v245 :: v246 :: v247 :: v248 :: v249 :: v250 :: v251 :: v252 :: v253 :: v254 :: v255 :: v256 :: u257 :: u258 :: u259 :: []), []⟩ w') :
    Code.wp Tryz.prog (fI (fI (fR (fe Tryz.f4.body 10)))) Qx ⟨List.toArray (u0 :: u1 :: u2 :: u3 :: u4 :: u5 :: .slice aA nA cA :: .slice aM nA cM :: u8 :: u9 :: u10 :: u11 :: u12 :: u13 :: u14 :: u15 :: u16 :: u17 :: u18 :: u19 :: u20 :: u21 :: u22 :: .int .i64 (i : Int) :: u24 :: u25 :: u26 :: u27 :: u28 :: u29 :: u30 :: u31 :: u32 :: u33 :: u34 :: u35 :: u36 :: u37 :: u38 :: u39 :: u40 :: u41 :: u42 :: u43 :: u44 :: u45 :: u46 :: u47 :: u48 :: u49 :: u50 :: u51 :: u52 :: u53 :: u54 :: u55 :: u56 :: u57 :: u58 :: u59 :: u60 :: u61 :: u62 :: u63 :: u64 :: u65 :: u66 :: u67 :: u68 :: u69 :: u70 :: u71 :: u72 :: u73 :: u74 :: u75 :: u76 :: u77 :: u78 :: u79 :: u80 :: u81 :: u82 :: u83 :: u84 :: u85 :: u86 :: u87 :: u88 :: u89 :: u90 :: u91 :: u92 :: u93 :: u94 :: u95 :: u96 :: u97 :: u98 :: u99 :: u100 :: u101 :: u102 :: u103 :: u104 :: u105 :: u106 :: u107 :: u108 :: u109 :: u110 :: u111 :: u112 :: u113 :: u114 :: u115 :: u116 :: u117 :: u118 :: u119 :: u120 :: u121 :: u122 :: u123 :: u124 :: u125 :: u126 :: u127 :: u128 :: u129 :: u130 :: u131 :: u132 :: u133 :: u134 :: u135 :: u136 :: u137 :: u138 :: u139 :: u140 :: u141 :: u142 :: u143 :: u144 :: u145 :: u146 :: u147 :: u148 :: u149 :: u150 :: u151 :: u152 :: u153 :: u154 :: u155 :: u156 :: u157 :: u158 :: u159 :: u160 :: u161 :: u162 :: u163 :: u164 :: u165 :: u166 :: u167 :: u168 :: u169 :: u170 :: u171 :: u172 :: u173 :: u174 :: u175 :: u176 :: u177 :: u178 :: u179 :: u180 :: u181 :: u182 :: u183 :: u184 :: u185 :: u186 :: u187 :: u188 :: u189 :: u190 :: u191 :: u192 :: u193 :: u194 :: u195 :: u196 :: u197 :: u198 :: u199 :: u200 :: u201 :: u202 :: u203 :: u204 :: u205 :: u206 :: u207 :: u208 :: u209 :: u210 :: u211 :: u212 :: u213 :: u214 :: u215 :: u216 :: u217 :: u218 :: u219 :: u220 :: u221 :: u222 :: u223 :: u224 :: u225 :: u226 :: u227 :: u228 :: u229 :: u230 :: u231 :: u232 :: u233 :: u234 :: u235 :: u236 :: u237 :: u238 :: u239 :: u240 :: u241 :: u242 :: u243 :: u244 :: u245 :: u246 :: u247 :: u248 :: u249 :: u250 :: u251 :: u252 :: u253 :: u254 :: u255 :: u256 :: u257 :: u258 :: u259 :: []), []⟩ w := by
  conv => arg 2; whnf
  obtain ⟨⟨a, n, c⟩, hT⟩ : ∃ t : Sl, T i = t := ⟨_, rfl⟩
  obtain ⟨⟨a2, n2, c2⟩, hT2⟩ : ∃ t : Sl, T2 i = t := ⟨_, rfl⟩
  have hL := hA.inn i hin
  have hL2 := hM.inn i hin
  have hkn : (K i).length = n := by have := hL.kl; rw [hT] at this; exact this
  have hn2 : n2 = n + 1 := by
    have h1 := hL2.kl
    rw [hT2, hk i hin, List.length_append, hkn] at h1
    have h2 : n + 1 = n2 := h1
    omega
  subst hn2
  have hn256 : n ≤ 256 := by have := hl i hin; omega
  have hO : Ow w w0.heap.size 27 3 a n c (caps (K i)) := by have := hL.ow; rw [hT] at this; exact this
  have hO2 : Ow w w0.heap.size 27 3 a2 (n + 1) c2 (caps (K i ++ [mk i])) := by have := hL2.ow; rw [hT2, hk i hin] at this; exact this
  have hR := hO.rd hkn
  have hR2 := hO2.rd (by rw [List.length_append, hkn]; rfl)
  obtain ⟨b2, o2, e2, hc2⟩ := hR2.at_ (by omega)
  subst e2
  have hmk : ∀ j, j < n → (K i)[j]? = some (mk i) := fun j hj => hm.all hin (by rw [hkn]; exact hj)
  have hmk2 : ∀ j, j < n + 1 → (K i ++ [mk i])[j]? = some (mk i) := fun j hj => by
    by_cases e : j < n
    · rw [List.getElem?_append_left (by rw [hkn]; exact e)]; exact hmk j e
    · obtain rfl : j = n := by omega
      rw [List.getElem?_append_right (by omega), hkn, Nat.sub_self]; rfl
  have HC2 : Hid (∀ j, j < n + 1 → Cel w b2 (o2 + j * 3) (mk i)) := fun j hj => hc2 j _ (hmk2 j hj)
  have HC1 : Hid (∀ j, j < n → ∃ b o, a = some ⟨b, o, none⟩ ∧ Cel w b (o + j * 3) (mk i)) := fun j hj => by
    obtain ⟨b, o, e, hc⟩ := hR.at_ (by omega)
    exact ⟨b, o, e, hc j _ (hmk j hj)⟩
  obtain ⟨g, eg, hg⟩ := hA.cell hin
  obtain ⟨g2, eg2, hg2⟩ := hM.cell hin
  subst eg eg2
  rw [hT] at hg
  rw [hT2] at hg2
  have hgc : w.cell? ⟨g, i, none⟩ = some (.slice a n c) := hg
  have hgc2 : w.cell? ⟨g2, i, none⟩ = some (.slice (some ⟨b2, o2, none⟩) (n + 1) c2) := hg2
  have HK := hid hK
  have HIn := hid hin
  have hdec : decide ((i : Int) < (nA : Int)) = true := decide_eq_true (by omega)
  have hin2 : (i : Int) < (nA : Int) := by omega
  obtain ⟨m, hmm⟩ : ∃ m : Int, m = -(i : Int) - 1 := ⟨_, rfl⟩
  have HMM := hid hmm
  have hmm2 : -(i : Int) - 1 = m := hmm.symm
  clear hA hM hm hk hl hT hT2 hL hL2 hkn hO hO2 hR hR2 hc2 hmk hmk2 hg hg2 hK hin hmm
  go_upto_region 40 with fail
  clear hdec
  go_loopw [24] (fun t W => ∃ j : Nat, j ≤ n + 1 ∧ t = .int .i64 (j : Int) ∧ w = W) (fun t _ => n + 1 - (intOf t).toNat)
  case atStart => exact ⟨0, Nat.zero_le _, rfl, rfl⟩
  case round =>
    obtain ⟨j, hj, rfl, rfl⟩ := hrel
    by_cases hlt : j < n + 1
    · have hd2 : decide ((j : Int) < ((n + 1 : Nat) : Int)) = true := decide_eq_true (by omega)
      have hj2 : (j : Int) < ((n + 1 : Nat) : Int) := by omega
      have hcm := HC2.out j hlt
      unfold mk at hcm
      rw [← HMM.out] at hcm
      obtain ⟨x0, x1, x2⟩ := hcm
      have heq := fun W => neqC m 0 0 m 0 0 W
      have hee : cEq m 0 0 m 0 0 = true := by unfold cEq; simp
      have HJ := hid hlt
      by_cases hln : j < n
      · obtain ⟨b, o, e, hc⟩ := HC1.out j hln
        subst e
        unfold mk at hc
        rw [← HMM.out] at hc
        obtain ⟨y0, y1, y2⟩ := hc
        have hd3 : decide ((j : Int) < (n : Int)) = true := decide_eq_true (by omega)
        have hj3 : (j : Int) < (n : Int) := by omega
        clear hlt hj hln
        go_wp2
        exact ⟨⟨j + 1, HJ.out, rfl, by first | trivial | rfl⟩, by simp [intOf]; have := HJ.out; omega⟩
      · have hd3 : decide ((j : Int) < (n : Int)) = false := decide_eq_false (by omega)
        have hj3 : ¬ (j : Int) < (n : Int) := by omega
        clear hlt hj
        go_wp2
        exact ⟨⟨j + 1, HJ.out, rfl, by first | trivial | rfl⟩, by simp [intOf]; have := HJ.out; omega⟩
    · obtain rfl : j = n + 1 := by omega
      have hd2 : decide (((n + 1 : Nat) : Int) < ((n + 1 : Nat) : Int)) = false := by simp
      have hj2 : ¬ ((n + 1 : Nat) : Int) < ((n + 1 : Nat) : Int) := by omega
      clear hlt hj
      go_wp2
      exact HK.out _ rfl ..
end Go.Proofs.YtnjadfgfpebkdaaGreat.D
