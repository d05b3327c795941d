import Derived.Test.YtfeilkhlapnpoaaLT
import Derived.Deep.LoopGhost
import Derived.Deep.CutRange
import Derived.Deep.DeepCutAuto
namespace Go.Proofs.Ytfeilkhlapnpoaa
open Go.RowKit Go.Maps
set_option linter.unusedVariables false

set_option maxRecDepth 1000000 in
set_option maxHeartbeats 4000000 in
theorem sm_in {u1 u2 u3 u4 u5 u6 u8 u9 u10 u11 u12 u16 u17 u18 u19 u20 u21 u22 u23 u24 u25 u26 u27 u28 u29 u30 u31 u32 u33 u34 u35 u36 u37 u38 u39 u40 u41 u42 u43 u44 u45 u46 u47 u48 u49 u50 u51 u52 u53 u54 u55 u56 u57 u58 u59 u60 u61 u62 u63 u64 u65 u66 u67 u68 u69 u70 u71 u72 u73 u74 u75 u76 u77 u78 u79 u80 u81 u82 u83 u84 u85 u86 u87 u88 u89 u90 u91 u92 u93 u94 u95 u96 u97 u98 u99 u100 u101 u102 u103 u104 u105 u106 u107 u108 u109 u110 u111 u112 u113 u114 u115 u116 u117 u118 u119 u120 u121 u122 u123 u124 u125 u126 u127 u128 u129 u130 u131 u132 u133 u134 u135 u136 u137 u138 u139 u140 u141 u142 u143 u144 u145 u146 u147 u148 u149 u150 u151 u152 u153 u154 u155 u156 u157 u158 u159 u160 u161 u162 u163 u164 u165 u166 u167 u168 u169 u170 u171 u172 u173 u174 u175 u176 u177 u178 u179 u180 u181 u182 u183 u184 u185 u186 u187 u188 u189 u190 u191 u192 u193 u194 u195 u196 u197 u198 u199 u200 u201 u202 u203 u204 u205 u206 u207 u208 u209 u210 u211 u212 u213 u214 u215 u216 u217 u218 u219 u220 u221 u222 u223 u224 u225 u226 u227 u228 u229 u230 u231 u232 u233 u234 u235 : Value} {K : Act → World → Prop} (e0 a : Int) (p : Nat) (hp : bits .and .i64 e0 255 = (p : Int)) (hp1 : p ≤ 255) (g b : Nat) (L' : List Int) (pp : Option Addr) (lc base : Nat) (w7 : World) (hQ7 : Qu w7 g b (1 + (p : Int)) a L') (hO7 : Own w7 base 3 pp (ob L').length lc (ints (ob L')))
    (hK : ∀ (w' : World), (∃ m, w' = w7.drewN m) → ∀ (v6 v16 v155 v156 v157 v158 v159 v160 v161 v162 v163 v164 v165 v166 v167 v168 v169 v170 v171 v172 v173 v174 v175 v176 v177 v178 v179 v180 v181 v182 v183 v184 v185 v186 v187 v188 v189 v190 v191 v192 v193 v194 : Value), K ⟨List.toArray (.int .i64 e0 :: u1 :: u2 :: u3 :: u4 :: u5 :: v6 :: .pointer (some ⟨g, 0, none⟩) :: u8 :: u9 :: u10 :: u11 :: u12 :: .slice pp (ob L').length lc :: .int .i64 (L'.length : Int) :: .int .i64 ((ob L').length : Int) :: v16 :: u17 :: u18 :: u19 :: u20 :: u21 :: u22 :: u23 :: u24 :: u25 :: u26 :: u27 :: u28 :: u29 :: u30 :: u31 :: u32 :: u33 :: u34 :: u35 :: u36 :: u37 :: u38 :: u39 :: u40 :: u41 :: u42 :: u43 :: u44 :: u45 :: u46 :: u47 :: u48 :: u49 :: u50 :: u51 :: u52 :: u53 :: u54 :: u55 :: u56 :: u57 :: u58 :: u59 :: u60 :: u61 :: u62 :: u63 :: u64 :: u65 :: u66 :: u67 :: u68 :: u69 :: u70 :: u71 :: u72 :: u73 :: u74 :: u75 :: u76 :: u77 :: u78 :: u79 :: u80 :: u81 :: u82 :: u83 :: u84 :: u85 :: u86 :: u87 :: u88 :: u89 :: u90 :: u91 :: u92 :: u93 :: u94 :: u95 :: u96 :: u97 :: u98 :: u99 :: u100 :: u101 :: u102 :: u103 :: u104 :: u105 :: u106 :: u107 :: u108 :: u109 :: u110 :: u111 :: u112 :: u113 :: u114 :: u115 :: u116 :: u117 :: u118 :: u119 :: u120 :: u121 :: u122 :: u123 :: u124 :: u125 :: u126 :: u127 :: u128 :: u129 :: u130 :: u131 :: u132 :: u133 :: u134 :: u135 :: u136 :: u137 :: u138 :: u139 :: u140 :: u141 :: u142 :: u143 :: u144 :: u145 :: u146 :: u147 :: u148 :: u149 :: u150 :: u151 :: u152 :: u153 :: u154 :: v155 :: v156 :: v157 :: v158 :: v159 :: v160 :: v161 :: v162 :: v163 :: v164 :: v165 :: v166 :: v167 :: v168 :: v169 :: v170 :: v171 :: v172 :: v173 :: v174 :: v175 :: v176 :: v177 :: v178 :: v179 :: v180 :: v181 :: v182 :: v183 :: v184 :: v185 :: v186 :: v187 :: v188 :: v189 :: v190 :: v191 :: v192 :: v193 :: v194 :: u195 :: u196 :: u197 :: u198 :: u199 :: u200 :: u201 :: u202 :: u203 :: u204 :: u205 :: u206 :: u207 :: u208 :: u209 :: u210 :: u211 :: u212 :: u213 :: u214 :: u215 :: u216 :: u217 :: u218 :: u219 :: u220 :: u221 :: u222 :: u223 :: u224 :: u225 :: u226 :: u227 :: u228 :: u229 :: u230 :: u231 :: u232 :: u233 :: u234 :: u235 :: []), []⟩ w') :
    Code.wp Try.prog (pI (pR (pL (cS Try.f3.body 6)))) (Exit.inBlock 2 (Exit.then K (fun _ _ _ => False))) ⟨List.toArray (.int .i64 e0 :: u1 :: u2 :: u3 :: u4 :: u5 :: u6 :: .pointer (some ⟨g, 0, none⟩) :: u8 :: u9 :: u10 :: u11 :: u12 :: .slice pp (ob L').length lc :: .int .i64 0 :: .int .i64 0 :: u16 :: u17 :: u18 :: u19 :: u20 :: u21 :: u22 :: u23 :: u24 :: u25 :: u26 :: u27 :: u28 :: u29 :: u30 :: u31 :: u32 :: u33 :: u34 :: u35 :: u36 :: u37 :: u38 :: u39 :: u40 :: u41 :: u42 :: u43 :: u44 :: u45 :: u46 :: u47 :: u48 :: u49 :: u50 :: u51 :: u52 :: u53 :: u54 :: u55 :: u56 :: u57 :: u58 :: u59 :: u60 :: u61 :: u62 :: u63 :: u64 :: u65 :: u66 :: u67 :: u68 :: u69 :: u70 :: u71 :: u72 :: u73 :: u74 :: u75 :: u76 :: u77 :: u78 :: u79 :: u80 :: u81 :: u82 :: u83 :: u84 :: u85 :: u86 :: u87 :: u88 :: u89 :: u90 :: u91 :: u92 :: u93 :: u94 :: u95 :: u96 :: u97 :: u98 :: u99 :: u100 :: u101 :: u102 :: u103 :: u104 :: u105 :: u106 :: u107 :: u108 :: u109 :: u110 :: u111 :: u112 :: u113 :: u114 :: u115 :: u116 :: u117 :: u118 :: u119 :: u120 :: u121 :: u122 :: u123 :: u124 :: u125 :: u126 :: u127 :: u128 :: u129 :: u130 :: u131 :: u132 :: u133 :: u134 :: u135 :: u136 :: u137 :: u138 :: u139 :: u140 :: u141 :: u142 :: u143 :: u144 :: u145 :: u146 :: u147 :: u148 :: u149 :: u150 :: u151 :: u152 :: u153 :: u154 :: u155 :: u156 :: u157 :: u158 :: u159 :: u160 :: u161 :: u162 :: u163 :: u164 :: u165 :: u166 :: u167 :: u168 :: u169 :: u170 :: u171 :: u172 :: u173 :: u174 :: u175 :: u176 :: u177 :: u178 :: u179 :: u180 :: u181 :: u182 :: u183 :: u184 :: u185 :: u186 :: u187 :: u188 :: u189 :: u190 :: u191 :: u192 :: u193 :: u194 :: u195 :: u196 :: u197 :: u198 :: u199 :: u200 :: u201 :: u202 :: u203 :: u204 :: u205 :: u206 :: u207 :: u208 :: u209 :: u210 :: u211 :: u212 :: u213 :: u214 :: u215 :: u216 :: u217 :: u218 :: u219 :: u220 :: u221 :: u222 :: u223 :: u224 :: u225 :: u226 :: u227 :: u228 :: u229 :: u230 :: u231 :: u232 :: u233 :: u234 :: u235 :: []), []⟩ w7 := by
  conv => arg 2; whnf
  have HK := hid hK
  clear hK
  have HQ7 := hid hQ7
  have HO7 := hid hO7
  have hll := hQ7.sz.len
  have z4 := hQ7.sz.a2
  have hol : Hid ((ob L').length ≤ L'.length) := ob_len L'
  clear hQ7 hO7
  go_loopw [14, 15] (TotRel w7 L') (fun _ t _ => (ob L').length - (intOf t).toNat)
  case atStart => exact ⟨0, Nat.zero_le _, rfl, rfl, 0, rfl⟩
  case round =>
    obtain ⟨k, hk, rfl, rfl, m, rfl⟩ := hrel
    have hcs := csum_take_le L' k
    by_cases hkl : k < (ob L').length
    · have hd : decide ((k : Int) < ((ob L').length : Int)) = true := decide_eq_true (by omega)
      obtain ⟨lb, lo, rfl, h1⟩ := HO7.out.read.plain (by omega)
      have y1 := h1 k _ (ints_get _ k hkl)
      obtain ⟨y, hy⟩ : ∃ y, y = (ob L')[k] := ⟨_, rfl⟩
      rw [← hy] at y1
      have hym : y ∈ L' := by rw [hy]; exact (ob_mem L' _).1 (List.getElem_mem hkl)
      have hof := hid (of_any (HQ7.out.later (below_drewN (Below.refl _ _) m)) y (HQ7.out.wf hym))
      have hcn := List.count_pos_iff.2 hym
      have hcm := HQ7.out.sz.cnt y
      have HCT : Hid (csum L' ((ob L').take (k + 1)) = csum L' ((ob L').take k) + L'.count y) := by unfold Hid; rw [hy]; exact csum_take L' hkl
      have hcs1 := csum_take_le L' (k + 1)
      rw [HCT.out] at hcs1
      obtain ⟨cn, hcn'⟩ : ∃ cn : Nat, cn = L'.count y := ⟨_, rfl⟩
      rw [← hcn'] at hof hcn hcm hcs1 HCT
      obtain ⟨ct, hct⟩ : ∃ ct : Nat, ct = csum L' ((ob L').take k) := ⟨_, rfl⟩
      rw [← hct] at hcs hcs1 HCT
      rw [← hct]
      have hz1 : decide ((cn : Int) < 1) = false := decide_eq_false (by omega)
      have hz2 : decide ((cn : Int) > 1 + (p : Int)) = false := decide_eq_false (by omega)
      have hol2 := hol.out
      have hw1 : wrap64 ((ct : Int) + (cn : Int)) = (ct : Int) + (cn : Int) := by unfold wrap64; omega
      have HRL : Hid (∀ m' U, U = w7.drewN m' → TotRel w7 L' (.int .i64 ((ct : Int) + (cn : Int))) (.int .i64 ((k : Int) + 1)) U) := fun m' U hU => ⟨k + 1, by omega, by rw [HCT.out]; rfl, rfl, m', hU⟩
      clear hcn' hct HCT hym
      by_cases hk0 : k = 0
      · have hz4 : decide ((k : Int) > 0) = false := decide_eq_false (by omega)
        have hz5 : decide (0 < k) = false := decide_eq_false (by omega)
        clear h1 hy hk0
        go_upto_region 26 with (first | (go_at_call 8; refine hof.out.mono ?_; rintro e w9 ⟨rfl, hw9⟩; obtain rfl := hw9.symm; clear hw9))
        go_quiet (fail)
        go_wp2
        refine ⟨?_, by simp [intOf]; omega⟩
        try rw [hw1]
        exact HRL.out _ _ rfl
      · obtain ⟨j, rfl⟩ : ∃ j, k = j + 1 := ⟨k - 1, by omega⟩
        have HRL2 : Hid (∀ m' U, U = w7.drewN m' → TotRel w7 L' (.int .i64 ((ct : Int) + (cn : Int))) (.int .i64 ((j : Int) + 1 + 1)) U) := HRL
        have y2 := h1 j _ (ints_get _ j (by omega))
        have hlt2 := ob_next L' hkl
        rw [← hy] at hlt2
        obtain ⟨y', hy'⟩ : ∃ y', y' = (ob L')[j] := ⟨_, rfl⟩
        rw [← hy'] at y2 hlt2
        have hz3 : decide (y ≤ y') = false := decide_eq_false (by omega)
        clear h1 hy hy' HRL hk0
        go_upto_region 26 with (first | (go_at_call 8; refine hof.out.mono ?_; rintro e w9 ⟨rfl, hw9⟩; obtain rfl := hw9.symm; clear hw9))
        go_quiet (fail)
        go_wp2
        refine ⟨?_, by simp [intOf]; omega⟩
        try rw [hw1]
        exact HRL2.out _ _ rfl
    · obtain rfl : k = (ob L').length := by omega
      have hd : decide (((ob L').length : Int) < ((ob L').length : Int)) = false := by simp
      have hsum : csum L' ((ob L').take (ob L').length) = L'.length := by rw [List.take_length]; exact ob_sum L'
      rw [hsum]
      clear hcs hsum
      go_wp2
      exact HK.out _ ⟨m, rfl⟩ _ _ _ _ _ _ _ _ _ _ _ _ _ _ _ _ _ _ _ _ _ _ _ _ _ _ _ _ _ _ _ _ _ _ _ _ _ _ _ _ _ _
end Go.Proofs.Ytfeilkhlapnpoaa
