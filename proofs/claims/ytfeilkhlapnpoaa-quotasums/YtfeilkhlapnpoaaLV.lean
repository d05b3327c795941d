import Derived.Test.YtfeilkhlapnpoaaLU
import Derived.Deep.LoopGhost
import Derived.Deep.CutRange
import Derived.Deep.DeepCutAuto
namespace Go.Proofs.Ytfeilkhlapnpoaa
open Go.RowKit Go.Maps
set_option linter.unusedVariables false

set_option maxRecDepth 1000000 in
set_option maxHeartbeats 4000000 in
theorem sm_last {u0 u1 u2 u3 u4 u5 u6 u8 u9 u10 u11 u12 u13 u14 u15 u16 u19 u20 u21 u22 u23 u24 u25 u26 u27 u28 u29 u30 u31 u32 u33 u34 u35 u36 u37 u38 u39 u40 u41 u42 u43 u44 u45 u46 u47 u48 u49 u50 u51 u52 u53 u54 u55 u56 u57 u58 u59 u60 u61 u62 u63 u64 u65 u66 u67 u68 u69 u70 u71 u72 u73 u74 u75 u76 u77 u78 u79 u80 u81 u82 u83 u84 u85 u86 u87 u88 u89 u90 u91 u92 u93 u94 u95 u96 u97 u98 u99 u100 u101 u102 u103 u104 u105 u106 u107 u108 u109 u110 u111 u112 u113 u114 u115 u116 u117 u118 u119 u120 u121 u122 u123 u124 u125 u126 u127 u128 u129 u130 u131 u132 u133 u134 u135 u136 u137 u138 u139 u140 u141 u142 u143 u144 u145 u146 u147 u148 u149 u150 u151 u152 u153 u154 u155 u156 u157 u158 u159 u160 u161 u162 u163 u164 u165 u166 u167 u168 u169 u170 u171 u172 u173 u174 u175 u176 u177 u178 u179 u180 u181 u182 u183 u184 u185 u186 u187 u188 u189 u190 u191 u192 u193 u194 u195 u196 u197 u198 u199 u200 u201 u202 u203 u204 u205 u206 u207 u208 u209 u210 u211 u212 u213 u214 u215 u216 u217 u218 u219 u220 u221 u222 u223 u224 u225 u226 u227 u228 u229 u230 u231 u232 u233 u234 u235 : Value} {K : Act → World → Prop} (e a : Int) (g b : Nat) (L : List Int) (pp : Option Addr) (lc base : Nat) (w w3 : World) (hQ3 : Qu w3 g b e a L) (hO3 : Own w3 base 3 pp (ob L).length lc (ints (ob L))) (hB3 : Below w.heap.size w w3) (hb0_ : w.heap.size ≤ b) (hbw_ : b < base)
    (hK : ∀ (w' : World), Qu w' g b e a [] ∧ Below w.heap.size w w' → ∀ (v6 v208 v209 v210 v211 v212 v213 v214 v215 v216 v217 v218 v219 v220 v221 v222 v223 v224 v225 v226 : Value), K ⟨List.toArray (u0 :: u1 :: u2 :: u3 :: u4 :: u5 :: v6 :: .pointer (some ⟨g, 0, none⟩) :: u8 :: u9 :: u10 :: u11 :: u12 :: u13 :: u14 :: u15 :: u16 :: .slice pp (ob L).length lc :: .int .i64 ((ob L).length : Int) :: u19 :: u20 :: u21 :: u22 :: u23 :: u24 :: u25 :: u26 :: u27 :: u28 :: u29 :: u30 :: u31 :: u32 :: u33 :: u34 :: u35 :: u36 :: u37 :: u38 :: u39 :: u40 :: u41 :: u42 :: u43 :: u44 :: u45 :: u46 :: u47 :: u48 :: u49 :: u50 :: u51 :: u52 :: u53 :: u54 :: u55 :: u56 :: u57 :: u58 :: u59 :: u60 :: u61 :: u62 :: u63 :: u64 :: u65 :: u66 :: u67 :: u68 :: u69 :: u70 :: u71 :: u72 :: u73 :: u74 :: u75 :: u76 :: u77 :: u78 :: u79 :: u80 :: u81 :: u82 :: u83 :: u84 :: u85 :: u86 :: u87 :: u88 :: u89 :: u90 :: u91 :: u92 :: u93 :: u94 :: u95 :: u96 :: u97 :: u98 :: u99 :: u100 :: u101 :: u102 :: u103 :: u104 :: u105 :: u106 :: u107 :: u108 :: u109 :: u110 :: u111 :: u112 :: u113 :: u114 :: u115 :: u116 :: u117 :: u118 :: u119 :: u120 :: u121 :: u122 :: u123 :: u124 :: u125 :: u126 :: u127 :: u128 :: u129 :: u130 :: u131 :: u132 :: u133 :: u134 :: u135 :: u136 :: u137 :: u138 :: u139 :: u140 :: u141 :: u142 :: u143 :: u144 :: u145 :: u146 :: u147 :: u148 :: u149 :: u150 :: u151 :: u152 :: u153 :: u154 :: u155 :: u156 :: u157 :: u158 :: u159 :: u160 :: u161 :: u162 :: u163 :: u164 :: u165 :: u166 :: u167 :: u168 :: u169 :: u170 :: u171 :: u172 :: u173 :: u174 :: u175 :: u176 :: u177 :: u178 :: u179 :: u180 :: u181 :: u182 :: u183 :: u184 :: u185 :: u186 :: u187 :: u188 :: u189 :: u190 :: u191 :: u192 :: u193 :: u194 :: u195 :: u196 :: u197 :: u198 :: u199 :: u200 :: u201 :: u202 :: u203 :: u204 :: u205 :: u206 :: u207 :: v208 :: v209 :: v210 :: v211 :: v212 :: v213 :: v214 :: v215 :: v216 :: v217 :: v218 :: v219 :: v220 :: v221 :: v222 :: v223 :: v224 :: v225 :: v226 :: u227 :: u228 :: u229 :: u230 :: u231 :: u232 :: u233 :: u234 :: u235 :: []), []⟩ w') :
    Code.wp Try.prog (lpO Try.f3.body 6) (Exit.inBlock 4 (Exit.then K (fun _ _ _ => False))) ⟨List.toArray (u0 :: u1 :: u2 :: u3 :: u4 :: u5 :: u6 :: .pointer (some ⟨g, 0, none⟩) :: u8 :: u9 :: u10 :: u11 :: u12 :: u13 :: u14 :: u15 :: u16 :: .slice pp (ob L).length lc :: .int .i64 0 :: u19 :: u20 :: u21 :: u22 :: u23 :: u24 :: u25 :: u26 :: u27 :: u28 :: u29 :: u30 :: u31 :: u32 :: u33 :: u34 :: u35 :: u36 :: u37 :: u38 :: u39 :: u40 :: u41 :: u42 :: u43 :: u44 :: u45 :: u46 :: u47 :: u48 :: u49 :: u50 :: u51 :: u52 :: u53 :: u54 :: u55 :: u56 :: u57 :: u58 :: u59 :: u60 :: u61 :: u62 :: u63 :: u64 :: u65 :: u66 :: u67 :: u68 :: u69 :: u70 :: u71 :: u72 :: u73 :: u74 :: u75 :: u76 :: u77 :: u78 :: u79 :: u80 :: u81 :: u82 :: u83 :: u84 :: u85 :: u86 :: u87 :: u88 :: u89 :: u90 :: u91 :: u92 :: u93 :: u94 :: u95 :: u96 :: u97 :: u98 :: u99 :: u100 :: u101 :: u102 :: u103 :: u104 :: u105 :: u106 :: u107 :: u108 :: u109 :: u110 :: u111 :: u112 :: u113 :: u114 :: u115 :: u116 :: u117 :: u118 :: u119 :: u120 :: u121 :: u122 :: u123 :: u124 :: u125 :: u126 :: u127 :: u128 :: u129 :: u130 :: u131 :: u132 :: u133 :: u134 :: u135 :: u136 :: u137 :: u138 :: u139 :: u140 :: u141 :: u142 :: u143 :: u144 :: u145 :: u146 :: u147 :: u148 :: u149 :: u150 :: u151 :: u152 :: u153 :: u154 :: u155 :: u156 :: u157 :: u158 :: u159 :: u160 :: u161 :: u162 :: u163 :: u164 :: u165 :: u166 :: u167 :: u168 :: u169 :: u170 :: u171 :: u172 :: u173 :: u174 :: u175 :: u176 :: u177 :: u178 :: u179 :: u180 :: u181 :: u182 :: u183 :: u184 :: u185 :: u186 :: u187 :: u188 :: u189 :: u190 :: u191 :: u192 :: u193 :: u194 :: u195 :: u196 :: u197 :: u198 :: u199 :: u200 :: u201 :: u202 :: u203 :: u204 :: u205 :: u206 :: u207 :: u208 :: u209 :: u210 :: u211 :: u212 :: u213 :: u214 :: u215 :: u216 :: u217 :: u218 :: u219 :: u220 :: u221 :: u222 :: u223 :: u224 :: u225 :: u226 :: u227 :: u228 :: u229 :: u230 :: u231 :: u232 :: u233 :: u234 :: u235 :: []), []⟩ w3 := by
  conv => arg 2; whnf
  have HK := hid hK
  clear hK
  have HQ3 := hid hQ3
  have HO3 := hid hO3
  have HBk := hid hB3
  have hb0 := hid hb0_
  have hbw := hid hbw_
  have hol : Hid ((ob L).length ≤ 256) := by have h1 := ob_len L; have h2 := hQ3.sz.len; have h3 := hQ3.sz.a2; unfold Hid; omega
  have HWF : Hid (∀ y, y ∈ L → (Lit.int .i64 y).wf = true) := fun y hy => hQ3.wf hy
  clear hQ3 hO3 hB3 hb0_ hbw_
  go_loopw [18] (BackRel w base g b e a L pp lc) (fun t _ => (ob L).length - (intOf t).toNat)
  case atStart => exact ⟨0, L, Nat.zero_le _, rfl, HQ3.out, Back.start L, HO3.out, HBk.out⟩
  case round =>
    clear HQ3 HO3 HBk
    obtain ⟨k, M, hk, rfl, hQ, hBa, hO, hB⟩ := hrel
    have hol2 := hol.out
    by_cases hkl : k < (ob L).length
    · have hd : decide ((k : Int) < ((ob L).length : Int)) = true := decide_eq_true (by omega)
      obtain ⟨lb, lo, rfl, h1⟩ := hO.read.plain (by omega)
      have y1 := h1 k _ (ints_get _ k hkl)
      have HBA := hid (hBa.step hkl)
      have hym := (ob_mem L _).1 (List.getElem_mem hkl)
      obtain ⟨y, hy⟩ : ∃ y, y = (ob L)[k] := ⟨_, rfl⟩
      rw [← hy] at y1 HBA hym
      have hwf : (Lit.int .i64 y).wf = true := HWF.out y hym
      obtain ⟨W, hW⟩ : ∃ W, W = wr := ⟨_, rfl⟩
      have hof := hid (fun (U : World) (hU : Below wr.heap.size wr U) => of_any (hQ.later hU) y hwf)
      have hsu := hid (fun (U : World) (hU : Below wr.heap.size wr U) => sub_any (hQ.later hU) y (M.count y : Int) hwf)
      rw [sub_ok] at hsu
      have hC : Hid (∀ U : World, But (fun j => j = b) wr U → (U.cell? ⟨lb, lo + k, none⟩ = some (.int .i64 y)) ∧ But (fun j => j = b) wr U) := fun U hU => ⟨cell_but hU y1 (fun e => by have h2 := hO.blk lb ⟨_, rfl, rfl⟩; have h3 := hbw.out; simp only at e; omega), hU⟩
      have HOL := hid hO
      have HBL := hid hB
      clear hW W h1 hy hym hQ hBa hO hB y1
      obtain ⟨cn, hcn⟩ : ∃ cn : Int, cn = (M.count y : Int) := ⟨_, rfl⟩
      rw [← hcn] at hof hsu HBA
      clear hcn
      go_upto_region 35 with fail
      go_region_held3 (fun U => (U.cell? ⟨lb, lo + k, none⟩ = some (.int .i64 y)) ∧ But (fun j => j = b) wr U) (first | exact hC.out _ HB5.out | exact hC.out _ (But.of HB4.out) | exact hC.out _ (But.of (Below.refl _ _).drew)) (first
        | (go_at_call 8; refine (hof.out _ (Below.refl _ _).drew).mono ?_; rintro e w4 ⟨rfl, hw4⟩; have HB4 : Hid (Below wr.heap.size wr w4) := (by unfold Hid; rw [hw4]; exact (Below.refl _ _).drew); clear hw4)
        | (go_at_call 10; refine (hsu.out _ HB4.out).mono ?_; rintro e w5 ⟨rfl, hq5, hb5⟩; have HQ5 := hid hq5; have HB5 := hid ((But.of HB4.out).trans hb5); clear hq5 hb5))
      go_wp2
      refine ⟨⟨k + 1, _, by omega, by go_num, HQ5.out, HBA.out, HOL.out.but HB5.out (fun j hj e => by have h2 := HOL.out.blk j hj; have h3 := hbw.out; omega), But.below HBL.out HB5.out (fun j hj => by have := hb0.out; omega)⟩, by simp [intOf]; omega⟩
    · obtain rfl : k = (ob L).length := by omega
      have hM := hBa.done
      subst hM
      have HQE := hid hQ
      have HBL := hid hB
      clear hQ hBa hO hB
      go_wp2
      exact HK.out _ ⟨HQE.out, HBL.out⟩ _ _ _ _ _ _ _ _ _ _ _ _ _ _ _ _ _ _ _ _
end Go.Proofs.Ytfeilkhlapnpoaa
