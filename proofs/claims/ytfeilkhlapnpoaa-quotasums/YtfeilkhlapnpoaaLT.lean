import Derived.Test.YtfeilkhlapnpoaaS2
import Derived.Deep.LoopGhost
import Derived.Deep.CutRange
import Derived.Deep.DeepCutAuto
namespace Go.Proofs.Ytfeilkhlapnpoaa
open Go.RowKit Go.Maps
set_option linter.unusedVariables false

/-- Places in a text. -/
def pR : Code → Code
  | .seq _ b => b
  | c => c
def pL : Code → Code
  | .seq a _ => a
  | c => c
def pI : Code → Code
  | .block _ c => c
  | .loop c => c
  | c => c
def rs : Nat → Code → Code
  | 0, c => c
  | n + 1, .seq _ b => rs n b
  | _ + 1, c => c
def lpO (b : Option Code) (n : Nat) : Code := pI (pR (pL (rs n (b.getD .skip))))
def cS (b : Option Code) (n : Nat) : Code := rs n (pI (pL (pR (pI (lpO b 4)))))
theorem then_false {K : Act → World → Prop} {Q : Exit → Act → World → Prop} : ∀ e a w, Exit.then K (fun _ _ _ => False) e a w → Exit.then K Q e a w := by
  intro e a w h
  cases e <;> first | exact h | exact False.elim h
theorem inb_false {n : Nat} {K : Act → World → Prop} {Q : Exit → Act → World → Prop} : ∀ e a w, Exit.inBlock n (Exit.then K (fun _ _ _ => False)) e a w → Exit.inBlock n (Exit.then K Q) e a w := by
  intro e a w h
  cases e with
  | normal => exact h
  | exit m =>
    by_cases hm : m = n
    · simp only [Exit.inBlock, hm, if_true] at h ⊢
      exact h
    · simp only [Exit.inBlock, hm, if_false] at h
      exact False.elim h
  | goto l => exact False.elim h
  | ret => exact False.elim h
  | panic c => exact False.elim h
  | outgrown => exact False.elim h
def SumRel (w : World) (g b n : Nat) (e a : Int) (t : Value) (w' : World) : Prop :=
  ∃ i : Nat, ∃ L, i ≤ n ∧ t = .int .i64 (i : Int) ∧ Qu w' g b e a L ∧ Below w.heap.size w w'
/-- What is counted are numbers of 64 bits. -/
theorem Qu.wf {w : World} {g b : Nat} {e a : Int} {L : List Int} (h : Qu w g b e a L) {x : Int} (hx : x ∈ L) : (Lit.int .i64 x).wf = true := by
  obtain ⟨D, hown, hcn⟩ := h.mp
  obtain ⟨es, rfl, hko⟩ := hown.keysOf
  have h1 := hcn.has x
  rw [decide_eq_true hx, has_eq, List.any_eq_true] at h1
  obtain ⟨y, hy, hk⟩ := h1
  obtain ⟨v, hv⟩ := hko y hy
  obtain ⟨z, _, hz, hw⟩ := Maps.keyOf_int_inv Try.underlying3 hv
  have := WideAt.sameKey_eq hk
  rw [hz] at this
  cases this
  exact hw
def TotRel (W : World) (L : List Int) (t k : Value) (w' : World) : Prop :=
  ∃ i : Nat, i ≤ (ob L).length ∧ t = .int .i64 (csum L ((ob L).take i) : Int) ∧ k = .int .i64 (i : Int) ∧ ∃ m, w' = W.drewN m
def BackRel (w : World) (base g b : Nat) (e a : Int) (L : List Int) (pp : Option Addr) (lc : Nat) (t : Value) (w' : World) : Prop :=
  ∃ k : Nat, ∃ M, k ≤ (ob L).length ∧ t = .int .i64 (k : Int) ∧ Qu w' g b e a M ∧ Back L M k ∧ Own w' base 3 pp (ob L).length lc (ints (ob L)) ∧ Below w.heap.size w w'
set_option maxRecDepth 1000000 in
set_option maxHeartbeats 4000000 in
theorem sm_if {u2 u3 u4 u5 u6 u8 u9 u13 u14 u15 u16 u17 u18 u19 u20 u21 u22 u23 u24 u25 u26 u27 u28 u29 u30 u31 u32 u33 u34 u35 u36 u37 u38 u39 u40 u41 u42 u43 u44 u45 u46 u47 u48 u49 u50 u51 u52 u53 u54 u56 u57 u58 u59 u60 u61 u62 u63 u64 u65 u66 u67 u68 u69 u70 u71 u72 u73 u74 u75 u76 u77 u78 u79 u80 u81 u82 u83 u84 u85 u86 u87 u88 u89 u90 u91 u92 u93 u94 u95 u96 u97 u98 u99 u100 u101 u102 u103 u104 u105 u106 u107 u108 u109 u110 u111 u112 u113 u114 u115 u116 u117 u118 u119 u120 u121 u122 u123 u124 u125 u126 u127 u128 u129 u130 u131 u132 u133 u134 u135 u136 u137 u138 u139 u140 u141 u142 u143 u144 u145 u146 u147 u148 u149 u150 u151 u152 u153 u154 u155 u156 u157 u158 u159 u160 u161 u162 u163 u164 u165 u166 u167 u168 u169 u170 u171 u172 u173 u174 u175 u176 u177 u178 u179 u180 u181 u182 u183 u184 u185 u186 u187 u188 u189 u190 u191 u192 u193 u194 u195 u196 u197 u198 u199 u200 u201 u202 u203 u204 u205 u206 u207 u208 u209 u210 u211 u212 u213 u214 u215 u216 u217 u218 u219 u220 u221 u222 u223 u224 u225 u226 u227 u228 u229 u230 u231 u232 u233 u234 u235 : Value} {K : Act → World → Prop} (e0 a0 : Int) (p q : Nat) (hp : bits .and .i64 e0 255 = (p : Int)) (hp1 : p ≤ 255) (hq : bits .and .i64 a0 255 = (q : Int)) (hq1 : q ≤ 255) (g b o : Nat) (L : List Int) (kd x sn c l : Int) (w2 : World) (hok : (Lit.int .i64 x).wf = true) (hbo_ : o ≠ b) (hQ2 : Qu w2 g b (1 + (p : Int)) (1 + (q : Int)) L) (hcc : c = (L.count x : Int)) (hll : l = (L.length : Int)) (m2 : w2.cell? ⟨o, 2, none⟩ = some (.int .i64 x)) (m3 : w2.cell? ⟨o, 3, none⟩ = some (.int .i64 sn))
    (hK : ∀ (E : Int) (L' : List Int) (w' : World), Qu w' g b (1 + (p : Int)) (1 + (q : Int)) L' ∧ But (fun k => k = b) w2 w' ∧ (E = 0 ∨ L' = L) → ∀ (v6 v55 v56 v57 v58 v59 v60 v61 v62 v63 v64 v65 v66 v67 v68 v69 v70 v71 v72 v73 v74 v75 v76 v77 v78 v79 v80 v81 v82 v83 v84 v85 v86 v87 v88 v89 v90 v91 v92 v93 v94 v95 v96 v97 v98 v99 v100 v101 v102 v103 v104 v105 v106 v107 v108 v109 v110 v111 v112 v113 v114 v115 v116 v117 v118 v119 v120 v121 v122 v123 v124 v125 v126 v127 v128 v129 v130 v131 v132 v133 v134 v135 v136 : Value), K ⟨List.toArray (.int .i64 e0 :: .int .i64 a0 :: u2 :: u3 :: u4 :: u5 :: v6 :: .pointer (some ⟨g, 0, none⟩) :: .int .i64 E :: u9 :: .pointer (some ⟨o, 0, none⟩) :: .int .i64 c :: .int .i64 l :: u13 :: u14 :: u15 :: u16 :: u17 :: u18 :: u19 :: u20 :: u21 :: u22 :: u23 :: u24 :: u25 :: u26 :: u27 :: u28 :: u29 :: u30 :: u31 :: u32 :: u33 :: u34 :: u35 :: u36 :: u37 :: u38 :: u39 :: u40 :: u41 :: u42 :: u43 :: u44 :: u45 :: u46 :: u47 :: u48 :: u49 :: u50 :: u51 :: u52 :: u53 :: u54 :: v55 :: v56 :: v57 :: v58 :: v59 :: v60 :: v61 :: v62 :: v63 :: v64 :: v65 :: v66 :: v67 :: v68 :: v69 :: v70 :: v71 :: v72 :: v73 :: v74 :: v75 :: v76 :: v77 :: v78 :: v79 :: v80 :: v81 :: v82 :: v83 :: v84 :: v85 :: v86 :: v87 :: v88 :: v89 :: v90 :: v91 :: v92 :: v93 :: v94 :: v95 :: v96 :: v97 :: v98 :: v99 :: v100 :: v101 :: v102 :: v103 :: v104 :: v105 :: v106 :: v107 :: v108 :: v109 :: v110 :: v111 :: v112 :: v113 :: v114 :: v115 :: v116 :: v117 :: v118 :: v119 :: v120 :: v121 :: v122 :: v123 :: v124 :: v125 :: v126 :: v127 :: v128 :: v129 :: v130 :: v131 :: v132 :: v133 :: v134 :: v135 :: v136 :: u137 :: u138 :: u139 :: u140 :: u141 :: u142 :: u143 :: u144 :: u145 :: u146 :: u147 :: u148 :: u149 :: u150 :: u151 :: u152 :: u153 :: u154 :: u155 :: u156 :: u157 :: u158 :: u159 :: u160 :: u161 :: u162 :: u163 :: u164 :: u165 :: u166 :: u167 :: u168 :: u169 :: u170 :: u171 :: u172 :: u173 :: u174 :: u175 :: u176 :: u177 :: u178 :: u179 :: u180 :: u181 :: u182 :: u183 :: u184 :: u185 :: u186 :: u187 :: u188 :: u189 :: u190 :: u191 :: u192 :: u193 :: u194 :: u195 :: u196 :: u197 :: u198 :: u199 :: u200 :: u201 :: u202 :: u203 :: u204 :: u205 :: u206 :: u207 :: u208 :: u209 :: u210 :: u211 :: u212 :: u213 :: u214 :: u215 :: u216 :: u217 :: u218 :: u219 :: u220 :: u221 :: u222 :: u223 :: u224 :: u225 :: u226 :: u227 :: u228 :: u229 :: u230 :: u231 :: u232 :: u233 :: u234 :: u235 :: []), []⟩ w') :
    Code.wp Try.prog (pR (pL (cS Try.f3.body 2))) (Exit.then K (fun _ _ _ => False)) ⟨List.toArray (.int .i64 e0 :: .int .i64 a0 :: u2 :: u3 :: u4 :: u5 :: u6 :: .pointer (some ⟨g, 0, none⟩) :: u8 :: u9 :: .pointer (some ⟨o, 0, none⟩) :: .int .i64 c :: .int .i64 l :: u13 :: u14 :: u15 :: u16 :: u17 :: u18 :: u19 :: u20 :: u21 :: u22 :: u23 :: u24 :: u25 :: u26 :: u27 :: u28 :: u29 :: u30 :: u31 :: u32 :: u33 :: u34 :: u35 :: u36 :: u37 :: u38 :: u39 :: u40 :: u41 :: u42 :: u43 :: u44 :: u45 :: u46 :: u47 :: u48 :: u49 :: u50 :: u51 :: u52 :: u53 :: u54 :: .bool (kd == 1) :: u56 :: u57 :: u58 :: u59 :: u60 :: u61 :: u62 :: u63 :: u64 :: u65 :: u66 :: u67 :: u68 :: u69 :: u70 :: u71 :: u72 :: u73 :: u74 :: u75 :: u76 :: u77 :: u78 :: u79 :: u80 :: u81 :: u82 :: u83 :: u84 :: u85 :: u86 :: u87 :: u88 :: u89 :: u90 :: u91 :: u92 :: u93 :: u94 :: u95 :: u96 :: u97 :: u98 :: u99 :: u100 :: u101 :: u102 :: u103 :: u104 :: u105 :: u106 :: u107 :: u108 :: u109 :: u110 :: u111 :: u112 :: u113 :: u114 :: u115 :: u116 :: u117 :: u118 :: u119 :: u120 :: u121 :: u122 :: u123 :: u124 :: u125 :: u126 :: u127 :: u128 :: u129 :: u130 :: u131 :: u132 :: u133 :: u134 :: u135 :: u136 :: u137 :: u138 :: u139 :: u140 :: u141 :: u142 :: u143 :: u144 :: u145 :: u146 :: u147 :: u148 :: u149 :: u150 :: u151 :: u152 :: u153 :: u154 :: u155 :: u156 :: u157 :: u158 :: u159 :: u160 :: u161 :: u162 :: u163 :: u164 :: u165 :: u166 :: u167 :: u168 :: u169 :: u170 :: u171 :: u172 :: u173 :: u174 :: u175 :: u176 :: u177 :: u178 :: u179 :: u180 :: u181 :: u182 :: u183 :: u184 :: u185 :: u186 :: u187 :: u188 :: u189 :: u190 :: u191 :: u192 :: u193 :: u194 :: u195 :: u196 :: u197 :: u198 :: u199 :: u200 :: u201 :: u202 :: u203 :: u204 :: u205 :: u206 :: u207 :: u208 :: u209 :: u210 :: u211 :: u212 :: u213 :: u214 :: u215 :: u216 :: u217 :: u218 :: u219 :: u220 :: u221 :: u222 :: u223 :: u224 :: u225 :: u226 :: u227 :: u228 :: u229 :: u230 :: u231 :: u232 :: u233 :: u234 :: u235 :: []), []⟩ w2 := by
  conv => arg 2; whnf
  have HK := hid hK
  clear hK
  have HQ2 := hid hQ2
  have HCC := hid hcc
  have HLL := hid hll
  have hbo := hid hbo_
  have z7 := hQ2.sz.cnt x
  have z5 := hQ2.sz.len
  rw [← hcc] at z7
  rw [← hll] at z5
  have hc0 : 0 ≤ c := by omega
  have hl0 : 0 ≤ l := by omega
  clear hQ2 hcc hll hbo_
  by_cases hk : kd = 1
  · subst hk
    have hsu := hid (sub_any HQ2.out x sn hok)
    by_cases hg : sn < 0 ∨ c < sn
    · have hR : subO L x sn = 20 ∧ subS L x sn = L := by unfold subO subS; rw [← HCC.out, if_pos hg, if_pos hg]; exact ⟨rfl, rfl⟩
      rw [hR.1, hR.2] at hsu
      clear hR
      go_upto_region 13 with (first | (go_at_call 10; refine hsu.out.mono ?_; rintro e w3 ⟨rfl, hq3, hb3⟩; have HQ3 := hid hq3; have HB3 := hid hb3; clear hq3 hb3))
      have d3 := cell_but HB3.out m3 hbo.out
      clear m2 m3 hsu
      by_cases hs0 : sn < 0
      · have hd1 : decide (sn ≥ 0) = false := decide_eq_false (by omega)
        clear hg
        go_quiet (fail)
        go_wp2
        exact HK.out 20 L _ ⟨HQ3.out.later (below_drewN (Below.refl _ _) _), HB3.out.call (below_drewN (Below.refl _ _) _), .inr rfl⟩ _ _ _ _ _ _ _ _ _ _ _ _ _ _ _ _ _ _ _ _ _ _ _ _ _ _ _ _ _ _ _ _ _ _ _ _ _ _ _ _ _ _ _ _ _ _ _ _ _ _ _ _ _ _ _ _ _ _ _ _ _ _ _ _ _ _ _ _ _ _ _ _ _ _ _ _ _ _ _ _ _ _ _
      · have hd1 : (0 : Int) ≤ sn := by omega
        have hd2 : decide (sn ≤ c) = false := decide_eq_false (by omega)
        clear hg
        go_quiet (fail)
        go_wp2
        exact HK.out 20 L _ ⟨HQ3.out.later (below_drewN (Below.refl _ _) _), HB3.out.call (below_drewN (Below.refl _ _) _), .inr rfl⟩ _ _ _ _ _ _ _ _ _ _ _ _ _ _ _ _ _ _ _ _ _ _ _ _ _ _ _ _ _ _ _ _ _ _ _ _ _ _ _ _ _ _ _ _ _ _ _ _ _ _ _ _ _ _ _ _ _ _ _ _ _ _ _ _ _ _ _ _ _ _ _ _ _ _ _ _ _ _ _ _ _ _ _
    · have hR : subO L x sn = 0 ∧ subS L x sn = subL x sn.toNat L := by unfold subO subS; rw [← HCC.out, if_neg hg, if_neg hg]; exact ⟨rfl, rfl⟩
      rw [hR.1, hR.2] at hsu
      clear hR
      have h0 : (0 : Int) ≤ sn := by omega
      have h1 : sn ≤ c := by omega
      clear hg
      have hcx : Hid (((subL x sn.toNat L).count x : Int) = c - sn) := by unfold Hid; rw [subL_count, HCC.out]; have := HCC.out; omega
      have hlx : Hid (((subL x sn.toNat L).length : Int) = l - sn) := by unfold Hid; have := subL_len x sn.toNat L (by have := HCC.out; omega); have := HLL.out; omega
      have hsl : sn ≤ l := by have := List.count_le_length (a := x) (l := L); have := HCC.out; have := HLL.out; omega
      go_upto_region 13 with (first | (go_at_call 10; refine hsu.out.mono ?_; rintro e w3 ⟨rfl, hq3, hb3⟩; have HQ3 := hid hq3; have HB3 := hid hb3; clear hq3 hb3))
      have hof3 := hid (fun (U : World) (hU : Below w3.heap.size w3 U) => of_any (HQ3.out.later hU) x hok)
      have hal3 := hid (fun (U : World) (hU : Below w3.heap.size w3 U) => all_any (HQ3.out.later hU))
      rw [hcx.out] at hof3
      rw [hlx.out] at hal3
      have hw0 : wrap64 (c - sn) = c - sn := by unfold wrap64; omega
      have hw9 : wrap64 (l - sn) = l - sn := by unfold wrap64; omega
      obtain ⟨c', hc'⟩ : ∃ c', c - sn = c' := ⟨_, rfl⟩
      obtain ⟨l', hl'⟩ : ∃ l', l - sn = l' := ⟨_, rfl⟩
      have hw1 : IntKind.i64.wrap (c - sn) = c' := by rw [← hc', IntKind.wrap_i64]; omega
      have hw2 : IntKind.i64.wrap (l - sn) = l' := by rw [← hl', IntKind.wrap_i64]; omega
      rw [hc'] at hof3
      rw [hl'] at hal3
      clear hc' hl' hw0 hw9
      have hC : Hid (∀ U : World, Below w3.heap.size w3 U → (U.cell? ⟨o, 2, none⟩ = some (.int .i64 x) ∧ U.cell? ⟨o, 3, none⟩ = some (.int .i64 sn)) ∧ Below w3.heap.size w3 U) := fun U hU => ⟨⟨cell_later hU (cell_but HB3.out m2 hbo.out), cell_later hU (cell_but HB3.out m3 hbo.out)⟩, hU⟩
      clear m2 m3 hsu hcx hlx
      go_region_held3 (fun U => (U.cell? ⟨o, 2, none⟩ = some (.int .i64 x) ∧ U.cell? ⟨o, 3, none⟩ = some (.int .i64 sn)) ∧ Below w3.heap.size w3 U) (first | exact hC.out _ HB5.out | exact hC.out _ HB4.out | exact hC.out _ (Below.refl _ _).drew) (first
        | (go_at_call 8; refine (hof3.out _ (Below.refl _ _).drew).mono ?_; rintro e w4 ⟨rfl, hw4⟩; have HB4 : Hid (Below w3.heap.size w3 w4) := (by unfold Hid; rw [hw4]; exact (Below.refl _ _).drew); clear hw4)
        | (go_at_call 9; refine (hal3.out _ HB4.out).mono ?_; rintro e w5 ⟨rfl, hb5⟩; have HB5 := hid (below_call HB4.out hb5); clear hb5))
      go_wp2
      exact HK.out 0 _ _ ⟨HQ3.out.later HB5.out, HB3.out.call HB5.out, .inl rfl⟩ _ _ _ _ _ _ _ _ _ _ _ _ _ _ _ _ _ _ _ _ _ _ _ _ _ _ _ _ _ _ _ _ _ _ _ _ _ _ _ _ _ _ _ _ _ _ _ _ _ _ _ _ _ _ _ _ _ _ _ _ _ _ _ _ _ _ _ _ _ _ _ _ _ _ _ _ _ _ _ _ _ _ _
  · have hd0 : (kd == 1) = false := by simp [hk]
    have hsu := hid (add_any HQ2.out x hok)
    by_cases h1 : (1 + (p : Int)) ≤ c
    · have hR : may (1 + (p : Int)) (1 + (q : Int)) L x = 9 := by unfold may; rw [if_pos (by rw [← HCC.out]; exact h1)]
      have hR2 : addL (1 + (p : Int)) (1 + (q : Int)) L x = L := by unfold addL; rw [hR]; rfl
      rw [hR, hR2] at hsu
      clear hR hR2
      have hd1 : decide (c < 1 + (p : Int)) = false := decide_eq_false (by omega)
      go_wp2_with (first | (go_at_call 11; refine hsu.out.mono ?_; rintro e w3 ⟨rfl, hq3, hb3⟩; have HQ3 := hid hq3; have HB3 := hid hb3; clear hq3 hb3))
      exact HK.out 9 L _ ⟨HQ3.out, HB3.out, .inr rfl⟩ _ _ _ _ _ _ _ _ _ _ _ _ _ _ _ _ _ _ _ _ _ _ _ _ _ _ _ _ _ _ _ _ _ _ _ _ _ _ _ _ _ _ _ _ _ _ _ _ _ _ _ _ _ _ _ _ _ _ _ _ _ _ _ _ _ _ _ _ _ _ _ _ _ _ _ _ _ _ _ _ _ _ _
    · have hd1 : decide (c < 1 + (p : Int)) = true := decide_eq_true (by omega)
      have hd1' : c < 1 + (p : Int) := by omega
      by_cases h2 : (1 + (q : Int)) ≤ l
      · have hR : may (1 + (p : Int)) (1 + (q : Int)) L x = 10 := by unfold may; rw [if_neg (by rw [← HCC.out]; exact h1), if_pos (by rw [← HLL.out]; exact h2)]
        have hR2 : addL (1 + (p : Int)) (1 + (q : Int)) L x = L := by unfold addL; rw [hR]; rfl
        rw [hR, hR2] at hsu
        clear hR hR2 h1
        have hd2 : decide (l < 1 + (q : Int)) = false := decide_eq_false (by omega)
        go_wp2_with (first | (go_at_call 11; refine hsu.out.mono ?_; rintro e w3 ⟨rfl, hq3, hb3⟩; have HQ3 := hid hq3; have HB3 := hid hb3; clear hq3 hb3))
        exact HK.out 10 L _ ⟨HQ3.out, HB3.out, .inr rfl⟩ _ _ _ _ _ _ _ _ _ _ _ _ _ _ _ _ _ _ _ _ _ _ _ _ _ _ _ _ _ _ _ _ _ _ _ _ _ _ _ _ _ _ _ _ _ _ _ _ _ _ _ _ _ _ _ _ _ _ _ _ _ _ _ _ _ _ _ _ _ _ _ _ _ _ _ _ _ _ _ _ _ _ _
      · have hR : may (1 + (p : Int)) (1 + (q : Int)) L x = 0 := by unfold may; rw [if_neg (by rw [← HCC.out]; exact h1), if_neg (by rw [← HLL.out]; exact h2)]
        have hR2 : addL (1 + (p : Int)) (1 + (q : Int)) L x = L ++ [x] := by unfold addL; rw [if_pos hR]
        rw [hR, hR2] at hsu
        clear hR hR2 h1
        have hd2 : decide (l < 1 + (q : Int)) = true := decide_eq_true (by omega)
        have hd2' : l < 1 + (q : Int) := by omega
        have hcx : Hid (((L ++ [x]).count x : Int) = c + 1) := by unfold Hid; rw [HCC.out]; simp
        have hlx : Hid (((L ++ [x]).length : Int) = l + 1) := by unfold Hid; rw [HLL.out]; simp
        clear h2
        go_upto_region 16 with (first | (go_at_call 11; refine hsu.out.mono ?_; rintro e w3 ⟨rfl, hq3, hb3⟩; have HQ3 := hid hq3; have HB3 := hid hb3; clear hq3 hb3))
        have hof3 := hid (of_any HQ3.out x hok)
        have hal3 := hid (all_any HQ3.out)
        rw [hcx.out] at hof3
        rw [hlx.out] at hal3
        have d2 := cell_but HB3.out m2 hbo.out
        clear m2 m3 hsu hcx hlx
        go_wp2_with (first
          | (go_at_call 8; refine hof3.out.mono ?_; rintro e w9 ⟨rfl, hw9⟩; obtain rfl := hw9.symm; clear hw9)
          | (go_at_call 9; refine hal3.out.mono ?_; rintro e w5 ⟨rfl, hb5⟩; have HB5 := hid hb5; clear hb5))
        exact HK.out 0 _ _ ⟨HQ3.out.later HB5.out, HB3.out.call HB5.out, .inl rfl⟩ _ _ _ _ _ _ _ _ _ _ _ _ _ _ _ _ _ _ _ _ _ _ _ _ _ _ _ _ _ _ _ _ _ _ _ _ _ _ _ _ _ _ _ _ _ _ _ _ _ _ _ _ _ _ _ _ _ _ _ _ _ _ _ _ _ _ _ _ _ _ _ _ _ _ _ _ _ _ _ _ _ _ _
end Go.Proofs.Ytfeilkhlapnpoaa
