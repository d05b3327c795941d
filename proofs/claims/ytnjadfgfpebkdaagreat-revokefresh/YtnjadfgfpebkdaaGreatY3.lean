import Derived.Test.YtnjadfgfpebkdaaGreatXA
namespace Go.Proofs.YtnjadfgfpebkdaaGreat.D
open Go.RowKit
open Go.Proofs.YtnjadfgfpebkdaaGreat.H (B64 Cp cEq neqC)
set_option linter.unusedVariables false
set_option linter.unusedSimpArgs false
/-- What a round of the lengthening leaves. -/
def F5S (w0 : World) (H : Hd) (T0 : Nat) (s : Sta) (N : Nat → Prop) (aA : Option Addr) (nA cA : Nat) (T : Nat → Sl) (K : Nat → List Cp) (aM : Option Addr) (i cM : Nat) (W : World) : Prop :=
  ∃ (col : Nat → Nat) (T2 : Nat → Sl) (K2 : Nat → List Cp), Duo W H s s T0 N ∧ Gz w0 W col H N ∧ Sf W w0.heap.size col 1 100 aA nA cA T K ∧ Sf W w0.heap.size col 2 100 aM i cM T2 K2 ∧ ∀ j, j < i → K2 j = K j ++ [mk j]
set_option maxRecDepth 1000000 in
set_option maxHeartbeats 8000000 in
theorem rf_5 {u0 u1 u2 u3 u4 u5 u8 u9 u10 u11 u12 u13 u14 u15 u16 u17 u18 u19 u20 u21 u23 u24 u25 u26 u27 u28 u29 u30 u31 u32 u33 u34 u35 u36 u37 u38 u39 u40 u41 u42 u43 u44 u45 u46 u47 u48 u49 u50 u51 u52 u53 u54 u55 u56 u57 u58 u59 u60 u61 u62 u63 u64 u65 u66 u67 u68 u69 u70 u71 u72 u73 u74 u75 u76 u77 u78 u79 u80 u81 u82 u83 u84 u85 u86 u87 u88 u89 u90 u91 u92 u93 u94 u95 u96 u97 u98 u99 u100 u101 u102 u103 u104 u105 u106 u107 u108 u109 u110 u111 u112 u113 u114 u115 u116 u117 u118 u119 u120 u121 u122 u123 u124 u125 u126 u127 u128 u129 u130 u131 u132 u133 u134 u135 u136 u137 u138 u139 u140 u141 u142 u143 u144 u145 u146 u147 u148 u149 u150 u151 u152 u153 u154 u155 u156 u157 u158 u159 u160 u161 u162 u163 u164 u165 u166 u167 u168 u169 u170 u171 u172 u173 u174 u175 u176 u177 u178 u179 u180 u181 u182 u183 u184 u185 u186 u187 u188 u189 u190 u191 u192 u193 u194 u195 u196 u197 u198 u199 u200 u201 u202 u203 u204 u205 u206 u207 u208 u209 u210 u211 u212 u213 u214 u215 u216 u217 u218 u219 u220 u221 u222 u223 u224 u225 u226 u227 u228 u229 u230 u231 u232 u233 u234 u235 u236 u237 u238 u239 u240 u241 u242 u243 u244 u245 u246 u247 u248 u249 u250 u251 u252 u253 u254 u255 u256 u257 u258 u259 : Value} {Qx : Exit → Act → World → Prop} {H : Hd} {T0 : Nat} {s : Sta} {N : Nat → Prop} (aA aM : Option Addr) (nA cA i cM : Nat) (T : Nat → Sl) (K : Nat → List Cp) (w0 w : World) (hS : F5S w0 H T0 s N aA nA cA T K aM i cM w) (hin : i < nA) (hnA : nA ≤ 100) (hl : ∀ j, j < nA → (K j).length ≤ 256)
    (hK : ∀ (a9 : Option Addr) (c9 : Nat) (w' : World), F5S w0 H T0 s N aA nA cA T K a9 (i + 1) c9 w' → ∀ (v188 v189 v190 v191 v192 v193 v194 v195 v196 v197 v198 v199 v200 v201 v202 v203 v204 v205 v206 : Value), Qx .normal ⟨List.toArray (u0 :: u1 :: u2 :: u3 :: u4 :: u5 :: .slice aA nA cA :: .slice a9 (i + 1) c9 :: u8 :: u9 :: u10 :: u11 :: u12 :: u13 :: u14 :: u15 :: u16 :: u17 :: u18 :: u19 :: u20 :: u21 :: .int .i64 ((i : Int) + 1) :: u23 :: u24 :: u25 :: u26 :: u27 :: u28 :: u29 :: u30 :: u31 :: u32 :: u33 :: u34 :: u35 :: u36 :: u37 :: u38 :: u39 :: u40 :: u41 :: u42 :: u43 :: u44 :: u45 :: u46 :: u47 :: u48 :: u49 :: u50 :: u51 :: u52 :: u53 :: u54 :: u55 :: u56 :: u57 :: u58 :: u59 :: u60 :: u61 :: u62 :: u63 :: u64 :: u65 :: u66 :: u67 :: u68 :: u69 :: u70 :: u71 :: u72 :: u73 :: u74 :: u75 :: u76 :: u77 :: u78 :: u79 :: u80 :: u81 :: u82 :: u83 :: u84 :: u85 :: u86 :: u87 :: u88 :: u89 :: u90 :: u91 :: u92 :: u93 :: u94 :: u95 :: u96 :: u97 :: u98 :: u99 :: u100 :: u101 :: u102 :: u103 :: u104 :: u105 :: u106 :: u107 :: u108 :: u109 :: u110 :: u111 :: u112 :: u113 :: u114 :: u115 :: u116 :: u117 :: u118 :: u119 :: u120 :: u121 :: u122 :: u123 :: u124 :: u125 :: u126 :: u127 :: u128 :: u129 :: u130 :: u131 :: u132 :: u133 :: u134 :: u135 :: u136 :: u137 :: u138 :: u139 :: u140 :: u141 :: u142 :: u143 :: u144 :: u145 :: u146 :: u147 :: u148 :: u149 :: u150 :: u151 :: u152 :: u153 :: u154 :: u155 :: u156 :: u157 :: u158 :: u159 :: u160 :: u161 :: u162 :: u163 :: u164 :: u165 :: u166 :: u167 :: u168 :: u169 :: u170 :: u171 :: u172 :: u173 :: u174 :: u175 :: u176 :: u177 :: u178 :: u179 :: u180 :: u181 :: u182 :: u183 :: u184 :: u185 :: u186 :: u187 :: v188 :: v189 :: v190 :: v191 :: v192 :: v193 :: v194 :: v195 :: v196 :: v197 :: v198 :: v199 :: v200 :: v201 :: v202 :: v203 :: v204 :: v205 :: v206 :: u207 :: u208 :: u209 :: u210 :: u211 :: u212 :: u213 :: u214 :: u215 :: u216 :: u217 :: u218 :: u219 :: u220 :: u221 :: u222 :: u223 :: u224 :: u225 :: u226 :: u227 :: u228 :: u229 :: u230 :: u231 :: u232 :: u233 :: u234 :: u235 :: u236 :: u237 :: u238 :: u239 :: u240 :: u241 :: u242 :: u243 :: u244 :: u245 :: u246 :: u247 :: u248 :: u249 :: u250 :: u251 :: u252 :: u253 :: u254 :: u255 :: u256 :: u257 :: u258 :: u259 :: []), []⟩ w') :
    Code.wp Tryz.prog (fI (fI (fR (fe Tryz.f4.body 9)))) Qx ⟨List.toArray (u0 :: u1 :: u2 :: u3 :: u4 :: u5 :: .slice aA nA cA :: .slice aM i cM :: u8 :: u9 :: u10 :: u11 :: u12 :: u13 :: u14 :: u15 :: u16 :: u17 :: u18 :: u19 :: u20 :: u21 :: .int .i64 (i : Int) :: u23 :: u24 :: u25 :: u26 :: u27 :: u28 :: u29 :: u30 :: u31 :: u32 :: u33 :: u34 :: u35 :: u36 :: u37 :: u38 :: u39 :: u40 :: u41 :: u42 :: u43 :: u44 :: u45 :: u46 :: u47 :: u48 :: u49 :: u50 :: u51 :: u52 :: u53 :: u54 :: u55 :: u56 :: u57 :: u58 :: u59 :: u60 :: u61 :: u62 :: u63 :: u64 :: u65 :: u66 :: u67 :: u68 :: u69 :: u70 :: u71 :: u72 :: u73 :: u74 :: u75 :: u76 :: u77 :: u78 :: u79 :: u80 :: u81 :: u82 :: u83 :: u84 :: u85 :: u86 :: u87 :: u88 :: u89 :: u90 :: u91 :: u92 :: u93 :: u94 :: u95 :: u96 :: u97 :: u98 :: u99 :: u100 :: u101 :: u102 :: u103 :: u104 :: u105 :: u106 :: u107 :: u108 :: u109 :: u110 :: u111 :: u112 :: u113 :: u114 :: u115 :: u116 :: u117 :: u118 :: u119 :: u120 :: u121 :: u122 :: u123 :: u124 :: u125 :: u126 :: u127 :: u128 :: u129 :: u130 :: u131 :: u132 :: u133 :: u134 :: u135 :: u136 :: u137 :: u138 :: u139 :: u140 :: u141 :: u142 :: u143 :: u144 :: u145 :: u146 :: u147 :: u148 :: u149 :: u150 :: u151 :: u152 :: u153 :: u154 :: u155 :: u156 :: u157 :: u158 :: u159 :: u160 :: u161 :: u162 :: u163 :: u164 :: u165 :: u166 :: u167 :: u168 :: u169 :: u170 :: u171 :: u172 :: u173 :: u174 :: u175 :: u176 :: u177 :: u178 :: u179 :: u180 :: u181 :: u182 :: u183 :: u184 :: u185 :: u186 :: u187 :: u188 :: u189 :: u190 :: u191 :: u192 :: u193 :: u194 :: u195 :: u196 :: u197 :: u198 :: u199 :: u200 :: u201 :: u202 :: u203 :: u204 :: u205 :: u206 :: u207 :: u208 :: u209 :: u210 :: u211 :: u212 :: u213 :: u214 :: u215 :: u216 :: u217 :: u218 :: u219 :: u220 :: u221 :: u222 :: u223 :: u224 :: u225 :: u226 :: u227 :: u228 :: u229 :: u230 :: u231 :: u232 :: u233 :: u234 :: u235 :: u236 :: u237 :: u238 :: u239 :: u240 :: u241 :: u242 :: u243 :: u244 :: u245 :: u246 :: u247 :: u248 :: u249 :: u250 :: u251 :: u252 :: u253 :: u254 :: u255 :: u256 :: u257 :: u258 :: u259 :: []), []⟩ w := by
  conv => arg 2; whnf
  obtain ⟨col, T2, K2, hD, hg, hA, hM, hk⟩ := hS
  obtain ⟨⟨a, n, c⟩, hT⟩ : ∃ t : Sl, T i = t := ⟨_, rfl⟩
  have hn : n ≤ 1000 := by
    have h1 := (hA.inn i hin).kl
    rw [hT] at h1
    have h3 : (K i).length = n := h1
    have := hl i hin
    omega
  obtain ⟨g, e, hc⟩ := hA.cell hin
  subst e
  rw [hT] at hc
  have hc0 : w.cell? ⟨g, i, none⟩ = some (.slice a n c) := hc
  obtain ⟨v, hv⟩ : ∃ v : Int, v = -(i : Int) - 1 := ⟨_, rfl⟩
  obtain ⟨a1, c1, W2, a9, c9, W4, h1, h2, HZ⟩ := f5_app hnA hin hn hg hA hM hT (-(i : Int) - 1) rfl
  have HR1 := hid h1
  have HR2 := hid h2
  have HD := hid hD
  have HKk := hid hk
  have HK := hid hK
  have hdec : decide ((i : Int) < (nA : Int)) = true := decide_eq_true (by omega)
  have hin2 : (i : Int) < (nA : Int) := by omega
  clear hD hg hA hM hk hT hl h1 h2 hc hK
  go_wp2_with (first
    | (at_builtin; refine wpList_append_known rfl _ _ 48 rfl _ _ rfl rfl _ W2 HR1.out ?_)
    | (at_builtin; refine wpList_append_known rfl _ _ 65 rfl _ _ rfl rfl _ W4 HR2.out ?_))
  obtain ⟨col', T2', g4, A4, M4, d4⟩ := HZ.out
  refine HK.out a9 c9 _ ⟨col', T2', _, d4 _ _ _ HD.out, g4, A4, M4, fun j hj => ?_⟩ ..
  by_cases e : j = i
  · subst e; rw [upd_same]
  · rw [upd_old _ _ e]; exact HKk.out j (by omega)
end Go.Proofs.YtnjadfgfpebkdaaGreat.D
