import Derived.Test.YtnjadfgfpebkdaaGreatXA
namespace Go.Proofs.YtnjadfgfpebkdaaGreat.D
open Go.RowKit
open Go.Proofs.YtnjadfgfpebkdaaGreat.H (B64 Cp cEq neqC)
set_option linter.unusedVariables false
set_option linter.unusedSimpArgs false
/-- What a round of the marks leaves: both worlds, all lists, marked up to a place. -/
def F3S (w0 : World) (H : Hd) (T0 : Nat) (s : Sta) (N : Nat → Prop) (aA : Option Addr) (nA cA : Nat) (T : Nat → Sl) (i j : Nat) (W : World) : Prop :=
  ∃ (col : Nat → Nat) (K : Nat → List Cp), Duo W H s s T0 N ∧ Gz w0 W col H N ∧ Sf W w0.heap.size col 1 100 aA nA cA T K ∧ (∀ j, j < nA → (K j).length ≤ 256) ∧ Mk nA K i j
theorem F3S.put {w0 W : World} {H : Hd} {T0 : Nat} {s : Sta} {N : Nat → Prop} {aA : Option Addr} {nA cA : Nat} {T : Nat → Sl} {i j g n c : Nat} (h : F3S w0 H T0 s N aA nA cA T i j W) (hi : i < nA) (hj : j < n) (hT : T i = (some ⟨g, 0, none⟩, n, c)) (v : Int) (hv : v = -(i : Int) - 1) :
    F3S w0 H T0 s N aA nA cA T i (j + 1) (((W.setCell ⟨g, j * 3, none⟩ (.int .i64 v)).setCell ⟨g, j * 3 + 1, none⟩ (.int .u64 0)).setCell ⟨g, j * 3 + 2, none⟩ (.int .u64 0)) := by
  subst hv
  obtain ⟨col, K, hD, hg, hA, hl, hm⟩ := h
  obtain ⟨hS, hst⟩ := hA.put (j := j) hi hT (mk i) (by omega)
  have hkl : (K i).length = n := by have := (hA.inn i hi).kl; rw [hT] at this; exact this
  refine ⟨col, upd K i ((K i).set j (mk i)), hg.duo (by omega) hst hD, hg.step (by omega) hst ⟨fun k hk => Nat.lt_of_lt_of_le (hg.cb.lt k hk) hst.but.size, hg.cb.ge, Nat.le_trans hg.cb.hb hst.but.size⟩, hS, fun j' hj' => ?_, hm.put (by rw [hkl]; exact hj)⟩
  by_cases e : j' = i
  · subst e; rw [upd_same, List.length_set]; exact hl j' hj'
  · rw [upd_old _ _ e]; exact hl j' hj'
set_option maxRecDepth 1000000 in
set_option maxHeartbeats 8000000 in
theorem rf_3 {u0 u1 u2 u3 u4 u5 u7 u8 u9 u10 u11 u12 u13 u14 u15 u16 u17 u18 u19 u21 u22 u23 u24 u25 u26 u27 u28 u29 u30 u31 u32 u33 u34 u35 u36 u37 u38 u39 u40 u41 u42 u43 u44 u45 u46 u47 u48 u49 u50 u51 u52 u53 u54 u55 u56 u57 u58 u59 u60 u61 u62 u63 u64 u65 u66 u67 u68 u69 u70 u71 u72 u73 u74 u75 u76 u77 u78 u79 u80 u81 u82 u83 u84 u85 u86 u87 u88 u89 u90 u91 u92 u93 u94 u95 u96 u97 u98 u99 u100 u101 u102 u103 u104 u105 u106 u107 u108 u109 u110 u111 u112 u113 u114 u115 u116 u117 u118 u119 u120 u121 u122 u123 u124 u125 u126 u127 u128 u129 u130 u131 u132 u133 u134 u135 u136 u137 u138 u139 u140 u141 u142 u143 u144 u145 u146 u147 u148 u149 u150 u151 u152 u153 u154 u155 u156 u157 u158 u159 u160 u161 u162 u163 u164 u165 u166 u167 u168 u169 u170 u171 u172 u173 u174 u175 u176 u177 u178 u179 u180 u181 u182 u183 u184 u185 u186 u187 u188 u189 u190 u191 u192 u193 u194 u195 u196 u197 u198 u199 u200 u201 u202 u203 u204 u205 u206 u207 u208 u209 u210 u211 u212 u213 u214 u215 u216 u217 u218 u219 u220 u221 u222 u223 u224 u225 u226 u227 u228 u229 u230 u231 u232 u233 u234 u235 u236 u237 u238 u239 u240 u241 u242 u243 u244 u245 u246 u247 u248 u249 u250 u251 u252 u253 u254 u255 u256 u257 u258 u259 : Value} {Qx : Exit → Act → World → Prop} {H : Hd} {T0 : Nat} {s : Sta} {N : Nat → Prop} (aA : Option Addr) (nA cA i : Nat) (T : Nat → Sl) (w0 w : World) (hS : F3S w0 H T0 s N aA nA cA T i 0 w) (hin : i < nA) (hnA : nA ≤ 100)
    (hK : ∀ (w' : World), F3S w0 H T0 s N aA nA cA T (i + 1) 0 w' → ∀ (v21 v163 v164 v165 v166 v167 v168 v169 v170 v171 v172 v173 v174 v175 v176 v177 v178 v179 v180 v181 v182 v183 v184 v185 v186 v187 : Value), Qx .normal ⟨List.toArray (u0 :: u1 :: u2 :: u3 :: u4 :: u5 :: .slice aA nA cA :: u7 :: u8 :: u9 :: u10 :: u11 :: u12 :: u13 :: u14 :: u15 :: u16 :: u17 :: u18 :: u19 :: .int .i64 ((i : Int) + 1) :: v21 :: u22 :: u23 :: u24 :: u25 :: u26 :: u27 :: u28 :: u29 :: u30 :: u31 :: u32 :: u33 :: u34 :: u35 :: u36 :: u37 :: u38 :: u39 :: u40 :: u41 :: u42 :: u43 :: u44 :: u45 :: u46 :: u47 :: u48 :: u49 :: u50 :: u51 :: u52 :: u53 :: u54 :: u55 :: u56 :: u57 :: u58 :: u59 :: u60 :: u61 :: u62 :: u63 :: u64 :: u65 :: u66 :: u67 :: u68 :: u69 :: u70 :: u71 :: u72 :: u73 :: u74 :: u75 :: u76 :: u77 :: u78 :: u79 :: u80 :: u81 :: u82 :: u83 :: u84 :: u85 :: u86 :: u87 :: u88 :: u89 :: u90 :: u91 :: u92 :: u93 :: u94 :: u95 :: u96 :: u97 :: u98 :: u99 :: u100 :: u101 :: u102 :: u103 :: u104 :: u105 :: u106 :: u107 :: u108 :: u109 :: u110 :: u111 :: u112 :: u113 :: u114 :: u115 :: u116 :: u117 :: u118 :: u119 :: u120 :: u121 :: u122 :: u123 :: u124 :: u125 :: u126 :: u127 :: u128 :: u129 :: u130 :: u131 :: u132 :: u133 :: u134 :: u135 :: u136 :: u137 :: u138 :: u139 :: u140 :: u141 :: u142 :: u143 :: u144 :: u145 :: u146 :: u147 :: u148 :: u149 :: u150 :: u151 :: u152 :: u153 :: u154 :: u155 :: u156 :: u157 :: u158 :: u159 :: u160 :: u161 :: u162 :: v163 :: v164 :: v165 :: v166 :: v167 :: v168 :: v169 :: v170 :: v171 :: v172 :: v173 :: v174 :: v175 :: v176 :: v177 :: v178 :: v179 :: v180 :: v181 :: v182 :: v183 :: v184 :: v185 :: v186 :: v187 :: u188 :: u189 :: u190 :: u191 :: u192 :: u193 :: u194 :: u195 :: u196 :: u197 :: u198 :: u199 :: u200 :: u201 :: u202 :: u203 :: u204 :: u205 :: u206 :: u207 :: u208 :: u209 :: u210 :: u211 :: u212 :: u213 :: u214 :: u215 :: u216 :: u217 :: u218 :: u219 :: u220 :: u221 :: u222 :: u223 :: u224 :: u225 :: u226 :: u227 :: u228 :: u229 :: u230 :: u231 :: u232 :: u233 :: u234 :: u235 :: u236 :: u237 :: u238 :: u239 :: u240 :: u241 :: u242 :: u243 :: u244 :: u245 :: u246 :: u247 :: u248 :: u249 :: u250 :: u251 :: u252 :: u253 :: u254 :: u255 :: u256 :: u257 :: u258 :: u259 :: []), []⟩ w') :
    Code.wp Tryz.prog (fI (fI (fR (fe Tryz.f4.body 8)))) Qx ⟨List.toArray (u0 :: u1 :: u2 :: u3 :: u4 :: u5 :: .slice aA nA cA :: u7 :: u8 :: u9 :: u10 :: u11 :: u12 :: u13 :: u14 :: u15 :: u16 :: u17 :: u18 :: u19 :: .int .i64 (i : Int) :: u21 :: u22 :: u23 :: u24 :: u25 :: u26 :: u27 :: u28 :: u29 :: u30 :: u31 :: u32 :: u33 :: u34 :: u35 :: u36 :: u37 :: u38 :: u39 :: u40 :: u41 :: u42 :: u43 :: u44 :: u45 :: u46 :: u47 :: u48 :: u49 :: u50 :: u51 :: u52 :: u53 :: u54 :: u55 :: u56 :: u57 :: u58 :: u59 :: u60 :: u61 :: u62 :: u63 :: u64 :: u65 :: u66 :: u67 :: u68 :: u69 :: u70 :: u71 :: u72 :: u73 :: u74 :: u75 :: u76 :: u77 :: u78 :: u79 :: u80 :: u81 :: u82 :: u83 :: u84 :: u85 :: u86 :: u87 :: u88 :: u89 :: u90 :: u91 :: u92 :: u93 :: u94 :: u95 :: u96 :: u97 :: u98 :: u99 :: u100 :: u101 :: u102 :: u103 :: u104 :: u105 :: u106 :: u107 :: u108 :: u109 :: u110 :: u111 :: u112 :: u113 :: u114 :: u115 :: u116 :: u117 :: u118 :: u119 :: u120 :: u121 :: u122 :: u123 :: u124 :: u125 :: u126 :: u127 :: u128 :: u129 :: u130 :: u131 :: u132 :: u133 :: u134 :: u135 :: u136 :: u137 :: u138 :: u139 :: u140 :: u141 :: u142 :: u143 :: u144 :: u145 :: u146 :: u147 :: u148 :: u149 :: u150 :: u151 :: u152 :: u153 :: u154 :: u155 :: u156 :: u157 :: u158 :: u159 :: u160 :: u161 :: u162 :: u163 :: u164 :: u165 :: u166 :: u167 :: u168 :: u169 :: u170 :: u171 :: u172 :: u173 :: u174 :: u175 :: u176 :: u177 :: u178 :: u179 :: u180 :: u181 :: u182 :: u183 :: u184 :: u185 :: u186 :: u187 :: u188 :: u189 :: u190 :: u191 :: u192 :: u193 :: u194 :: u195 :: u196 :: u197 :: u198 :: u199 :: u200 :: u201 :: u202 :: u203 :: u204 :: u205 :: u206 :: u207 :: u208 :: u209 :: u210 :: u211 :: u212 :: u213 :: u214 :: u215 :: u216 :: u217 :: u218 :: u219 :: u220 :: u221 :: u222 :: u223 :: u224 :: u225 :: u226 :: u227 :: u228 :: u229 :: u230 :: u231 :: u232 :: u233 :: u234 :: u235 :: u236 :: u237 :: u238 :: u239 :: u240 :: u241 :: u242 :: u243 :: u244 :: u245 :: u246 :: u247 :: u248 :: u249 :: u250 :: u251 :: u252 :: u253 :: u254 :: u255 :: u256 :: u257 :: u258 :: u259 :: []), []⟩ w := by
  conv => arg 2; whnf
  have HS := hid hS
  have HK := hid hK
  have HIn := hid hin
  obtain ⟨⟨a, n, c⟩, hT⟩ : ∃ t : Sl, T i = t := ⟨_, rfl⟩
  have HT := hid hT
  have hcell : ∃ g, aA = some ⟨g, 0, none⟩ ∧ ∀ W, F3S w0 H T0 s N aA nA cA T i 0 W ∨ (∃ j, F3S w0 H T0 s N aA nA cA T i j W) → W.cell? ⟨g, i, none⟩ = some (.slice a n c) := by
    obtain ⟨col, K, hD, hg, hA, hl, hm⟩ := hS
    obtain ⟨g, e, _⟩ := hA.cell hin
    refine ⟨g, e, fun W hW => ?_⟩
    have key : ∀ j, F3S w0 H T0 s N aA nA cA T i j W → W.cell? ⟨g, i, none⟩ = some (.slice a n c) := fun j h => by
      obtain ⟨col, K, hD, hg, hA, hl, hm⟩ := h
      obtain ⟨g', e', hc⟩ := hA.cell hin
      rw [e] at e'
      cases e'
      rw [hT] at hc
      exact hc
    rcases hW with h | ⟨j, h⟩
    · exact key 0 h
    · exact key j h
  obtain ⟨g, rfl, hcl⟩ := hcell
  have HC := hid hcl
  have hn256 : n ≤ 256 := by
    obtain ⟨col, K, hD, hg, hA, hl, hm⟩ := hS
    have h1 := (hA.inn i hin).kl
    rw [hT] at h1
    have h2 := hl i hin
    have h3 : (K i).length = n := h1
    omega
  have hdec : decide ((i : Int) < (nA : Int)) = true := decide_eq_true (by omega)
  have hin2 : (i : Int) < (nA : Int) := by omega
  clear hS hK hT hcl hin
  go_upto_region 29 with fail
  clear hdec
  go_loopw [21] (fun t W => ∃ j : Nat, j ≤ n ∧ t = .int .i64 (j : Int) ∧ Hid (F3S w0 H T0 s N (some ⟨g, 0, none⟩) nA cA T i j W)) (fun t _ => n - (intOf t).toNat)
  case atStart => exact ⟨0, Nat.zero_le _, rfl, HS⟩
  case round =>
    obtain ⟨j, hj, rfl, HJ⟩ := hrel
    have hc0 := HC.out wr (.inr ⟨j, HJ.out⟩)
    by_cases hlt : j < n
    · have hd2 : decide ((j : Int) < (n : Int)) = true := decide_eq_true (by omega)
      have hj2 : (j : Int) < (n : Int) := by omega
      obtain ⟨b, hb, hrd⟩ : ∃ b, a = some ⟨b, 0, none⟩ ∧ (∃ u0 u1 u2, (wr.cell? ⟨b, j * 3, none⟩ = some u0 ∧ wr.cell? ⟨b, j * 3 + 1, none⟩ = some u1 ∧ wr.cell? ⟨b, j * 3 + 2, none⟩ = some u2) ∧ ∀ k, wr.frozen? ⟨b, k, none⟩ = false) := by
        obtain ⟨col, K, hD, hg, hA, hl, hm⟩ := HJ.out
        have hL := hA.inn i HIn.out
        rw [HT.out] at hL
        have hO : Ow wr w0.heap.size 27 3 a n c (caps (K i)) := hL.ow
        obtain ⟨b, e, hc⟩ := hO.at_ (by omega)
        have hlen : (caps (K i)).length = n * 3 := by rw [caps_len]; have : (K i).length = n := hL.kl; rw [this]
        refine ⟨b, e, _, _, _, ⟨hc (j * 3) _ (List.getElem?_eq_getElem (by omega)), hc (j * 3 + 1) _ (List.getElem?_eq_getElem (by omega)), hc (j * 3 + 2) _ (List.getElem?_eq_getElem (by omega))⟩, ?_⟩
        rcases hO.form with ⟨e1, _⟩ | ⟨g', e1, hfz, _⟩
        · rw [e] at e1; cases e1
        · rw [e] at e1; cases e1; exact hfz
      subst hb
      obtain ⟨u0', u1', u2', ⟨y0, y1, y2⟩, hfz⟩ := hrd
      have f0 := hfz (j * 3)
      have f1 := hfz (j * 3 + 1)
      have f2 := hfz (j * 3 + 2)
      have HJ' := hid (F3S.put HJ.out HIn.out hlt HT.out (-(i : Int) - 1) rfl)
      have HJl := hid hlt
      clear hfz hlt hj
      go_wp2
      exact ⟨⟨j + 1, HJl.out, rfl, HJ'⟩, by simp [intOf]; have := HJl.out; omega⟩
    · obtain rfl : j = n := by omega
      have hd2 : decide ((j : Int) < (j : Int)) = false := by simp
      have hj2 : ¬ (j : Int) < (j : Int) := by omega
      clear hlt hj
      go_wp2
      refine HK.out _ ?_ ..
      obtain ⟨col, K, hD, hg, hA, hl, hm⟩ := HJ.out
      refine ⟨col, K, hD, hg, hA, hl, hm.next ?_⟩
      have h1 := (hA.inn i HIn.out).kl
      rw [HT.out] at h1
      have h3 : (K i).length = j := h1
      omega
end Go.Proofs.YtnjadfgfpebkdaaGreat.D
