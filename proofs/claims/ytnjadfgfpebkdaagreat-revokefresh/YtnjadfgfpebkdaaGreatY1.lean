import Derived.Test.YtnjadfgfpebkdaaGreatXA
import Derived.Test.YtnjadfgfpebkdaaGreatUA
namespace Go.Proofs.YtnjadfgfpebkdaaGreat.D
open Go.RowKit
open Go.Proofs.YtnjadfgfpebkdaaGreat.H (B64 Cp cEq neqC)
set_option linter.unusedVariables false
set_option linter.unusedSimpArgs false
/-- What a round of the objects leaves. -/
def F2S (w0 : World) (H : Hd) (T0 : Nat) (aI : Option Addr) (nn cI : Nat) (ids : List Int) (i : Nat) (aA : Option Addr) (nA cA : Nat) (W : World) : Prop :=
  ∃ (s : Sta) (N : Nat → Prop) (col : Nat → Nat) (T : Nat → Sl) (K : Nat → List Cp), Fit H.mo s ∧ Duo W H s s T0 N ∧ Gz w0 W col H N ∧ Sf W w0.heap.size col 1 100 aA nA cA T K ∧ Di W w0.heap.size col aI nn cI ids ∧ (∀ j, j < nA → (K j).length ≤ 256) ∧ ∀ j, i ≤ j → ∀ y, ids[j]? = some y → hasO s.X s.l y = true
theorem revA_small {mo : Nat} {s : Sta} (h : Inv mo s.X s.l) (all : Bool) (c : Cp) : (revA all s c).K.length ≤ mo := by
  unfold revA
  split
  · exact Nat.zero_le _
  · split
    · exact Nat.zero_le _
    · show (List.map _ _).length ≤ mo
      rw [List.length_map]
      exact G_len h.ok true _
set_option maxRecDepth 1000000 in
set_option maxHeartbeats 8000000 in
theorem rf_2 {u0 u1 u2 u5 u7 u10 u11 u12 u13 u14 u15 u16 u17 u18 u19 u20 u21 u22 u23 u24 u25 u26 u27 u28 u29 u30 u31 u32 u33 u34 u35 u36 u37 u38 u39 u40 u41 u42 u43 u44 u45 u46 u47 u48 u49 u50 u51 u52 u53 u54 u55 u56 u57 u58 u59 u60 u61 u62 u63 u64 u65 u66 u67 u68 u69 u70 u71 u72 u73 u74 u75 u76 u77 u78 u79 u80 u81 u82 u83 u84 u85 u86 u87 u88 u89 u90 u91 u92 u93 u94 u95 u96 u97 u98 u99 u100 u101 u102 u103 u104 u105 u106 u107 u108 u109 u110 u111 u112 u113 u114 u115 u116 u117 u118 u119 u120 u121 u122 u123 u124 u125 u126 u127 u128 u129 u130 u131 u132 u133 u134 u135 u136 u137 u138 u139 u140 u141 u142 u143 u144 u145 u146 u147 u148 u149 u150 u151 u152 u153 u154 u155 u156 u157 u158 u159 u160 u161 u162 u163 u164 u165 u166 u167 u168 u169 u170 u171 u172 u173 u174 u175 u176 u177 u178 u179 u180 u181 u182 u183 u184 u185 u186 u187 u188 u189 u190 u191 u192 u193 u194 u195 u196 u197 u198 u199 u200 u201 u202 u203 u204 u205 u206 u207 u208 u209 u210 u211 u212 u213 u214 u215 u216 u217 u218 u219 u220 u221 u222 u223 u224 u225 u226 u227 u228 u229 u230 u231 u232 u233 u234 u235 u236 u237 u238 u239 u240 u241 u242 u243 u244 u245 u246 u247 u248 u249 u250 u251 u252 u253 u254 u255 u256 u257 u258 u259 : Value} {Qx : Exit → Act → World → Prop} {H : Hd} {T0 : Nat} (aI aA : Option Addr) (nn cI i nA cA : Nat) (ids : List Int) (w0 w : World) (hS : F2S w0 H T0 aI nn cI ids i aA nA cA w) (hn : nA = 2 * i) (hin : i < nn) (hnn : nn ≤ 8) (hil : ids.length = nn) (hp : ids.Pairwise (· < ·)) (hok : ∀ y ∈ ids, S.i64ok y)
    (hK : ∀ (a9 : Option Addr) (c9 : Nat) (w' : World), F2S w0 H T0 aI nn cI ids (i + 1) a9 (nA + 2) c9 w' → ∀ (v2 v10 v11 v12 v13 v14 v15 v16 v17 v18 v19 v60 v61 v62 v63 v64 v65 v66 v67 v68 v69 v70 v71 v72 v73 v74 v75 v76 v77 v78 v79 v80 v81 v82 v83 v84 v85 v86 v87 v88 v89 v90 v91 v92 v93 v94 v95 v96 v97 v98 v99 v100 v101 v102 v103 v104 v105 v106 v107 v108 v109 v110 v111 v112 v113 v114 v115 v116 v117 v118 v119 v120 v121 v122 v123 v124 v125 v126 v127 v128 v129 v130 v131 v132 v133 v134 v135 v136 v137 v138 v139 v140 v141 v142 v143 v144 v145 v146 v147 v148 v149 v150 v151 v152 v153 v154 v155 v156 v157 v158 v159 v160 v161 v162 : Value), Qx .normal ⟨List.toArray (u0 :: u1 :: v2 :: .pointer (some ⟨H.sb, 0, none⟩) :: .pointer (some ⟨H.rb, 0, none⟩) :: u5 :: .slice a9 (nA + 2) c9 :: u7 :: .slice aI nn cI :: .int .i64 ((i : Int) + 1) :: v10 :: v11 :: v12 :: v13 :: v14 :: v15 :: v16 :: v17 :: v18 :: v19 :: u20 :: u21 :: u22 :: u23 :: u24 :: u25 :: u26 :: u27 :: u28 :: u29 :: u30 :: u31 :: u32 :: u33 :: u34 :: u35 :: u36 :: u37 :: u38 :: u39 :: u40 :: u41 :: u42 :: u43 :: u44 :: u45 :: u46 :: u47 :: u48 :: u49 :: u50 :: u51 :: u52 :: u53 :: u54 :: u55 :: u56 :: u57 :: u58 :: u59 :: v60 :: v61 :: v62 :: v63 :: v64 :: v65 :: v66 :: v67 :: v68 :: v69 :: v70 :: v71 :: v72 :: v73 :: v74 :: v75 :: v76 :: v77 :: v78 :: v79 :: v80 :: v81 :: v82 :: v83 :: v84 :: v85 :: v86 :: v87 :: v88 :: v89 :: v90 :: v91 :: v92 :: v93 :: v94 :: v95 :: v96 :: v97 :: v98 :: v99 :: v100 :: v101 :: v102 :: v103 :: v104 :: v105 :: v106 :: v107 :: v108 :: v109 :: v110 :: v111 :: v112 :: v113 :: v114 :: v115 :: v116 :: v117 :: v118 :: v119 :: v120 :: v121 :: v122 :: v123 :: v124 :: v125 :: v126 :: v127 :: v128 :: v129 :: v130 :: v131 :: v132 :: v133 :: v134 :: v135 :: v136 :: v137 :: v138 :: v139 :: v140 :: v141 :: v142 :: v143 :: v144 :: v145 :: v146 :: v147 :: v148 :: v149 :: v150 :: v151 :: v152 :: v153 :: v154 :: v155 :: v156 :: v157 :: v158 :: v159 :: v160 :: v161 :: v162 :: u163 :: u164 :: u165 :: u166 :: u167 :: u168 :: u169 :: u170 :: u171 :: u172 :: u173 :: u174 :: u175 :: u176 :: u177 :: u178 :: u179 :: u180 :: u181 :: u182 :: u183 :: u184 :: u185 :: u186 :: u187 :: u188 :: u189 :: u190 :: u191 :: u192 :: u193 :: u194 :: u195 :: u196 :: u197 :: u198 :: u199 :: u200 :: u201 :: u202 :: u203 :: u204 :: u205 :: u206 :: u207 :: u208 :: u209 :: u210 :: u211 :: u212 :: u213 :: u214 :: u215 :: u216 :: u217 :: u218 :: u219 :: u220 :: u221 :: u222 :: u223 :: u224 :: u225 :: u226 :: u227 :: u228 :: u229 :: u230 :: u231 :: u232 :: u233 :: u234 :: u235 :: u236 :: u237 :: u238 :: u239 :: u240 :: u241 :: u242 :: u243 :: u244 :: u245 :: u246 :: u247 :: u248 :: u249 :: u250 :: u251 :: u252 :: u253 :: u254 :: u255 :: u256 :: u257 :: u258 :: u259 :: []), []⟩ w') :
    Code.wp Tryz.prog (fI (fI (fR (fe Tryz.f4.body 7)))) Qx ⟨List.toArray (u0 :: u1 :: u2 :: .pointer (some ⟨H.sb, 0, none⟩) :: .pointer (some ⟨H.rb, 0, none⟩) :: u5 :: .slice aA nA cA :: u7 :: .slice aI nn cI :: .int .i64 (i : Int) :: u10 :: u11 :: u12 :: u13 :: u14 :: u15 :: u16 :: u17 :: u18 :: u19 :: u20 :: u21 :: u22 :: u23 :: u24 :: u25 :: u26 :: u27 :: u28 :: u29 :: u30 :: u31 :: u32 :: u33 :: u34 :: u35 :: u36 :: u37 :: u38 :: u39 :: u40 :: u41 :: u42 :: u43 :: u44 :: u45 :: u46 :: u47 :: u48 :: u49 :: u50 :: u51 :: u52 :: u53 :: u54 :: u55 :: u56 :: u57 :: u58 :: u59 :: u60 :: u61 :: u62 :: u63 :: u64 :: u65 :: u66 :: u67 :: u68 :: u69 :: u70 :: u71 :: u72 :: u73 :: u74 :: u75 :: u76 :: u77 :: u78 :: u79 :: u80 :: u81 :: u82 :: u83 :: u84 :: u85 :: u86 :: u87 :: u88 :: u89 :: u90 :: u91 :: u92 :: u93 :: u94 :: u95 :: u96 :: u97 :: u98 :: u99 :: u100 :: u101 :: u102 :: u103 :: u104 :: u105 :: u106 :: u107 :: u108 :: u109 :: u110 :: u111 :: u112 :: u113 :: u114 :: u115 :: u116 :: u117 :: u118 :: u119 :: u120 :: u121 :: u122 :: u123 :: u124 :: u125 :: u126 :: u127 :: u128 :: u129 :: u130 :: u131 :: u132 :: u133 :: u134 :: u135 :: u136 :: u137 :: u138 :: u139 :: u140 :: u141 :: u142 :: u143 :: u144 :: u145 :: u146 :: u147 :: u148 :: u149 :: u150 :: u151 :: u152 :: u153 :: u154 :: u155 :: u156 :: u157 :: u158 :: u159 :: u160 :: u161 :: u162 :: u163 :: u164 :: u165 :: u166 :: u167 :: u168 :: u169 :: u170 :: u171 :: u172 :: u173 :: u174 :: u175 :: u176 :: u177 :: u178 :: u179 :: u180 :: u181 :: u182 :: u183 :: u184 :: u185 :: u186 :: u187 :: u188 :: u189 :: u190 :: u191 :: u192 :: u193 :: u194 :: u195 :: u196 :: u197 :: u198 :: u199 :: u200 :: u201 :: u202 :: u203 :: u204 :: u205 :: u206 :: u207 :: u208 :: u209 :: u210 :: u211 :: u212 :: u213 :: u214 :: u215 :: u216 :: u217 :: u218 :: u219 :: u220 :: u221 :: u222 :: u223 :: u224 :: u225 :: u226 :: u227 :: u228 :: u229 :: u230 :: u231 :: u232 :: u233 :: u234 :: u235 :: u236 :: u237 :: u238 :: u239 :: u240 :: u241 :: u242 :: u243 :: u244 :: u245 :: u246 :: u247 :: u248 :: u249 :: u250 :: u251 :: u252 :: u253 :: u254 :: u255 :: u256 :: u257 :: u258 :: u259 :: []), []⟩ w := by
  conv => arg 2; whnf
  obtain ⟨s, N, col, T, K, hf, hd, hg, hA, hI, hk2, hrest⟩ := hS
  obtain ⟨obj, hobj⟩ : ∃ obj, ids[i]? = some obj := ⟨_, List.getElem?_eq_getElem (by rw [hil]; exact hin)⟩
  have hoo := hrest i (Nat.le_refl _) obj hobj
  have hoi := hok obj (List.mem_of_getElem? hobj)
  obtain ⟨bI, hbI, hcI⟩ := hI.ow.at_ (by omega)
  subst hbI
  have hci : w.cell? ⟨bI, i, none⟩ = some (.int .i64 obj) := hcI i _ (by
    obtain ⟨h1, h2⟩ := List.getElem?_eq_some_iff.1 hobj
    rw [ints_get ids i h1, h2])
  obtain ⟨r, hr, hro, hT⟩ := obj_root hf.inv hoo
  obtain ⟨O, hO⟩ : ∃ O, O = ofL H.mo s.X s.l obj := ⟨_, rfl⟩
  rw [← hO] at hT
  obtain ⟨n1, hn1⟩ : ∃ n1, O.length = n1 + 1 := ⟨O.length - 1, by have := hT.len; have := hT.pos; omega⟩
  have hO256 : n1 + 1 ≤ 256 := by rw [← hn1, hO]; exact Nat.le_trans (len_small hf.inv obj) hd.hmo.2
  obtain ⟨x, hx⟩ : ∃ x, (G true s.l r)[n1]? = some x := ⟨_, List.getElem?_eq_getElem (by rw [← hT.len]; omega)⟩
  obtain ⟨y, hy⟩ : ∃ y, (G true s.l r)[0]? = some y := ⟨_, List.getElem?_eq_getElem hT.pos⟩
  obtain ⟨hxn, hxo, qx, hOx, _⟩ := hT.at_ n1 x hx
  obtain ⟨hyn, hyo, qy, hOy, _⟩ := hT.at_ 0 y hy
  obtain ⟨⟨c1, c2, c3⟩, hc⟩ : ∃ c : Cp, c = (tk s.X x).1 := ⟨_, rfl⟩
  obtain ⟨⟨d1, d2, d3⟩, hdd⟩ : ∃ c : Cp, c = (tk s.X y).1 := ⟨_, rfl⟩
  have hc1 : c1 = obj := by have : (tk s.X x).1.1 = obj := hxo; rw [← hc] at this; exact this
  have hd1 : d1 = obj := by have : (tk s.X y).1.1 = obj := hyo; rw [← hdd] at this; exact this
  have hcw : c2 < B64 ∧ c3 < B64 := by have := hf.inv.wide x hxn; rw [← hc] at this; exact this
  have hdw : d2 < B64 ∧ d3 < B64 := by have := hf.inv.wide y hyn; rw [← hdd] at this; exact this
  rw [← hc] at hOx
  rw [← hdd] at hOy
  -- the calls
  have k1 := hid (fun (U : World) (hU : Below w.heap.size w U) => cof_any (hd.later hU).cat obj)
  rw [← hO, hn1] at k1
  have HT := hid (fun (U : World) (hU : Duo U H s s T0 N) => token_any hU (c1, c2, c3) hcw (by rw [hc1]; exact hoi))
  have HRt := hid (fun (U : World) (N1 : Nat → Prop) (s1 : Sta) (hU : Duo U H s1 s T0 N1) => rtoken_any hU hf.inv (c1, c2, c3) hcw)
  unfold Took at HT
  unfold RTook at HRt
  obtain ⟨A, hAe⟩ : ∃ A, A = revA false s (c1, c2, c3) := ⟨_, rfl⟩
  rw [← hAe] at HT HRt
  have HAf : Hid (Inv H.mo A.s.X A.s.l → Fit H.mo A.s) := fun hi => by
    rw [hAe] at hi ⊢
    exact (revA_fit hf false (c1, c2, c3) hi).1
  have HAo : Hid (∀ z, obj ≠ z → hasO A.s.X A.s.l z = hasO s.X s.l z) := fun z hz => by
    rw [hAe]
    exact revA_other hf.inv false (c1, c2, c3) (by rw [← hc1] at hz; exact hz)
  have hkl : A.K.length ≤ 256 := by rw [hAe]; exact Nat.le_trans (revA_small hf.inv _ _) hd.hmo.2
  obtain ⟨KL, sA, E, hAs⟩ : ∃ KL sA E, A = ⟨KL, E, sA⟩ := ⟨_, _, _, rfl⟩
  subst hAs
  simp only at HT HRt HAf HAo hkl
  have HQ := hid (fun (U : World) (N1 : Nat → Prop) (d : Sta) (hU : Duo U H sA d T0 N1) => object_any hU (d1, d2, d3) hdw (by rw [hd1]; exact hoi))
  have HRq := hid (fun (U : World) (N1 : Nat → Prop) (s1 : Sta) (hv : Inv H.mo sA.X sA.l) (hU : Duo U H s1 sA T0 N1) => robject_any hU hv (d1, d2, d3) hdw)
  unfold Took at HQ
  unfold RTook at HRq
  obtain ⟨B, hBe⟩ : ∃ B, B = revA true sA (d1, d2, d3) := ⟨_, rfl⟩
  rw [← hBe] at HQ HRq
  have HBf : Hid (Fit H.mo sA → Inv H.mo B.s.X B.s.l → Fit H.mo B.s) := fun hf1 hi => by
    rw [hBe] at hi ⊢
    exact (revA_fit hf1 true (d1, d2, d3) hi).1
  have HBo : Hid (Inv H.mo sA.X sA.l → ∀ z, obj ≠ z → hasO B.s.X B.s.l z = hasO sA.X sA.l z) := fun hv z hz => by
    rw [hBe]
    exact revA_other hv true (d1, d2, d3) (by rw [← hd1] at hz; exact hz)
  have HBl : Hid (Inv H.mo sA.X sA.l → B.K.length ≤ 256) := fun hv => by rw [hBe]; exact Nat.le_trans (revA_small hv _ _) hd.hmo.2
  obtain ⟨KM, sB, E2, hBs⟩ : ∃ KL sA E, B = ⟨KL, E, sA⟩ := ⟨_, _, _, rfl⟩
  subst hBs
  simp only at HQ HRq HBf HBo HBl
  obtain ⟨kn, hkn⟩ : ∃ kn, kn = KL.length := ⟨_, rfl⟩
  rw [← hkn] at HT HRt hkl
  obtain ⟨km, hkm⟩ : ∃ km, km = KM.length := ⟨_, rfl⟩
  rw [← hkm] at HQ HRq HBl
  unfold cpV at HT HRt HQ HRq
  unfold wld at HRt HRq
  have HKN := hid hkn
  have HKM := hid hkm
  have HF := hid hf
  have HD := hid hd
  have HG := hid hg
  have HA := hid hA
  have HI := hid hI
  have HK2 := hid hk2
  have HRest := hid hrest
  have HP := hid hp
  have HObj := hid hobj
  have HOx := hid hOx
  have HOy := hid hOy
  have HOl := hid hn1
  have HN := hid hn
  have HIn := hid hin
  have HNn := hid hnn
  have HK := hid hK
  have hdec : decide ((i : Int) < (nn : Int)) = true := decide_eq_true (by omega)
  have hin2 : (i : Int) < (nn : Int) := by omega
  have HS0 : Hid (∀ U, Below w.heap.size w U → U.cell? ⟨H.sb, 0, none⟩ = some (.pointer (some ⟨H.A.g, 0, none⟩)) ∧ U.cell? ⟨bI, i, none⟩ = some (.int .i64 obj)) := fun U hU => ⟨(hd.later hU).t1.c0, cell_later hU hci⟩
  clear hf hd hg hA hI hk2 hrest hobj hoo hoi hcI hci hr hro hT hO hn1 hx hy hxn hxo hyn hyo hOx hOy hc hdd hc1 hd1 hcw hdw hAe hBe hkn hkm hp hok hil hn hK hnn
  go_upto_region 16 with fail
  go_region_held3 (fun U => U.cell? ⟨H.sb, 0, none⟩ = some (.pointer (some ⟨H.A.g, 0, none⟩)) ∧ U.cell? ⟨bI, i, none⟩ = some (.int .i64 obj)) (first | exact HS0.out _ HB1.out | exact HS0.out _ (Below.refl _ _).drew | exact HS0.out _ (Below.refl _ _)) (first
    | (go_at_call 11; refine (k1.out _ (Below.refl _ _).drew).mono ?_; rintro e v1 ⟨a10, c10, rfl, hO1, hb1⟩; have HB1 := hid (below_call (Below.refl w.heap.size w).drew hb1); have HO1 := hid (hO1.mono (b := w.heap.size) (Below.refl w.heap.size w).drew.size); clear hb1 hO1))
  have HR1 := hid (HO1.out.rt HOl.out)
  obtain ⟨b10, o10, e10, hcx⟩ := rt_at HR1.out HOx.out
  subst e10
  obtain ⟨x0, x1, x2, -, -⟩ := hcx
  have HY : Hid (v1.cell? ⟨b10, o10, none⟩ = some (.int .i64 d1) ∧ v1.cell? ⟨b10, o10 + 1, none⟩ = some (.int .u64 (d2 : Int)) ∧ v1.cell? ⟨b10, o10 + 2, none⟩ = some (.int .u64 (d3 : Int))) := by
    obtain ⟨b', o', e', hc'⟩ := rt_at HR1.out HOy.out
    cases e'
    have h0 := hc'.c0
    have h1 := hc'.c1
    have h2 := hc'.c2
    simp only [Nat.zero_mul, Nat.add_zero] at h0 h1 h2
    exact ⟨h0, h1, h2⟩
  have hb10 := HO1.out.blk b10 ⟨_, rfl, rfl⟩
  have hnl : ((n1 + 1 : Nat) : Int) - 1 = (n1 : Int) := by omega
  have hnl2 : (n1 : Int) < ((n1 + 1 : Nat) : Int) := by omega
  have hnl3 : (0 : Int) < ((n1 + 1 : Nat) : Int) := by omega
  go_upto_region 18 with fail
  obtain ⟨v2, hv2⟩ : ∃ v2, v2 = v1.alloc (Obj.cells #[.int .i64 c1, .int .u64 (c2 : Int), .int .u64 (c3 : Int)] 27) := ⟨_, rfl⟩
  have hb2 : Below v1.heap.size v1 v2 := by rw [hv2]; exact below1 _ _
  have hxc : Cel v2 v1.heap.size 0 (c1, c2, c3) := by rw [hv2]; exact cel_new v1 (c1, c2, c3) 27
  rw [← hv2]
  obtain ⟨xb, hxb⟩ : ∃ xb, xb = v1.heap.size := ⟨_, rfl⟩
  rw [← hxb] at hxc
  rw [← hxb]
  have HB2 := hid (below_call HB1.out hb2)
  have HXc := hid hxc
  have HD2 := hid (HD.out.later HB2.out)
  have HNN : Hid (∀ k, w.heap.size ≤ k → ¬ N k) := fun k hk e => by have := (HD.out.rng k e).2.1; omega
  have HXb : Hid (¬ N xb) := HNN.out xb (by rw [hxb]; exact HB1.out.size)
  have HNb : Hid (¬ N b10 ∧ b10 < v2.heap.size) := ⟨HNN.out b10 hb10.1, Nat.lt_of_lt_of_le hb10.2 hb2.size⟩
  have HY2 : Hid (v2.cell? ⟨b10, o10, none⟩ = some (.int .i64 d1) ∧ v2.cell? ⟨b10, o10 + 1, none⟩ = some (.int .u64 (d2 : Int)) ∧ v2.cell? ⟨b10, o10 + 2, none⟩ = some (.int .u64 (d3 : Int))) := ⟨cell_later hb2 HY.out.1, cell_later hb2 HY.out.2.1, cell_later hb2 HY.out.2.2⟩
  have HS1 : Hid (∀ U, But N v2 U → Tp U H.sb H.A.g H.qg H.z.s → U.cell? ⟨H.sb, 0, none⟩ = some (.pointer (some ⟨H.A.g, 0, none⟩)) ∧ U.cell? ⟨H.sb, 1, none⟩ = some (.pointer (some ⟨H.qg, 0, none⟩)) ∧ U.cell? ⟨H.sb, 2, none⟩ = some (.pointer (some ⟨H.z.s, 0, none⟩)) ∧ U.cell? ⟨xb, 0, none⟩ = some (.int .i64 c1) ∧ U.cell? ⟨xb, 1, none⟩ = some (.int .u64 (c2 : Int)) ∧ U.cell? ⟨xb, 2, none⟩ = some (.int .u64 (c3 : Int))) := fun U hU ht => ⟨ht.c0, ht.c1, ht.c2, (HXc.out.but hU HXb.out).zero⟩
  have HS2 : Hid (∀ U, But N v2 U → Tp U H.rb H.r H.q H.v → U.cell? ⟨H.rb, 0, none⟩ = some (.pointer (some ⟨H.r, 0, none⟩)) ∧ U.cell? ⟨H.rb, 1, none⟩ = some (.pointer (some ⟨H.q, 0, none⟩)) ∧ U.cell? ⟨H.rb, 2, none⟩ = some (.pointer (some ⟨H.v, 0, none⟩)) ∧ U.cell? ⟨xb, 0, none⟩ = some (.int .i64 c1) ∧ U.cell? ⟨xb, 1, none⟩ = some (.int .u64 (c2 : Int)) ∧ U.cell? ⟨xb, 2, none⟩ = some (.int .u64 (c3 : Int))) := fun U hU ht => ⟨ht.c0, ht.c1, ht.c2, (HXc.out.but hU HXb.out).zero⟩
  clear hv2 hb2 hxc hxb hb10 x0 x1 x2 hnl hnl2
  go_region_held3 (fun U => U.cell? ⟨H.sb, 0, none⟩ = some (.pointer (some ⟨H.A.g, 0, none⟩)) ∧ U.cell? ⟨H.sb, 1, none⟩ = some (.pointer (some ⟨H.qg, 0, none⟩)) ∧ U.cell? ⟨H.sb, 2, none⟩ = some (.pointer (some ⟨H.z.s, 0, none⟩)) ∧ U.cell? ⟨xb, 0, none⟩ = some (.int .i64 c1) ∧ U.cell? ⟨xb, 1, none⟩ = some (.int .u64 (c2 : Int)) ∧ U.cell? ⟨xb, 2, none⟩ = some (.int .u64 (c3 : Int))) (first | exact HS1.out _ HB3.out HD3.out.t1 | exact HS1.out _ (But.of (Below.refl _ _).drew) (HD2.out.later (Below.refl _ _).drew).t1 | exact HS1.out _ (But.refl _ _) HD2.out.t1) (first
    | (go_at_call 13; refine (HT.out _ (HD2.out.later (Below.refl _ _).drew)).mono ?_; rintro e v3 ⟨a4, cc4, rfl, hO4, hd4, hb4⟩; have HD3 := hid hd4; have HO4 := hid (hO4.mono (b := v2.heap.size) (Below.refl v2.heap.size v2).drew.size); have HB3 := hid ((But.of (S := N) (Below.refl v2.heap.size v2).drew).trans hb4); clear hd4 hO4 hb4))
  go_upto_region 19 with fail
  go_region_held3 (fun U => U.cell? ⟨H.rb, 0, none⟩ = some (.pointer (some ⟨H.r, 0, none⟩)) ∧ U.cell? ⟨H.rb, 1, none⟩ = some (.pointer (some ⟨H.q, 0, none⟩)) ∧ U.cell? ⟨H.rb, 2, none⟩ = some (.pointer (some ⟨H.v, 0, none⟩)) ∧ U.cell? ⟨xb, 0, none⟩ = some (.int .i64 c1) ∧ U.cell? ⟨xb, 1, none⟩ = some (.int .u64 (c2 : Int)) ∧ U.cell? ⟨xb, 2, none⟩ = some (.int .u64 (c3 : Int))) (first | exact HS2.out _ (HB3.out.trans HW4.out.2) HD4.out.t2 | exact HS2.out _ (HB3.out.trans (But.of (Below.refl _ _).drew)) (HD3.out.later (Below.refl _ _).drew).t2 | exact HS2.out _ HB3.out HD3.out.t2) (first
    | (go_at_call 22; refine (HRt.out _ N sA (HD3.out.later (Below.refl _ _).drew)).mono ?_; rintro e v4 ⟨a5, cc5, rfl, hO5, N4, hd5, hw5, hk5⟩; have HD4 := hid hd5; have HO5 := hid hO5; have HW4 := hid ((Went.later (N := N) (Below.refl v3.heap.size v3).drew).trans hw5); have HK5 := hid hk5; clear hd5 hO5 hw5 hk5))
  have HNb4 : Hid (¬ N4 b10) := HW4.out.out (Nat.lt_of_lt_of_le HNb.out.2 HB3.out.size) HNb.out.1
  have HS3 : Hid (∀ U, But N4 v4 U → Tp U H.sb H.A.g H.qg H.z.s → U.cell? ⟨H.sb, 0, none⟩ = some (.pointer (some ⟨H.A.g, 0, none⟩)) ∧ U.cell? ⟨H.sb, 1, none⟩ = some (.pointer (some ⟨H.qg, 0, none⟩)) ∧ U.cell? ⟨H.sb, 2, none⟩ = some (.pointer (some ⟨H.z.s, 0, none⟩)) ∧ U.cell? ⟨b10, o10, none⟩ = some (.int .i64 d1) ∧ U.cell? ⟨b10, o10 + 1, none⟩ = some (.int .u64 (d2 : Int)) ∧ U.cell? ⟨b10, o10 + 2, none⟩ = some (.int .u64 (d3 : Int))) := fun U hU ht => ⟨ht.c0, ht.c1, ht.c2, cell_but hU (cell_but (HB3.out.trans HW4.out.2) HY2.out.1 HNb.out.1) HNb4.out, cell_but hU (cell_but (HB3.out.trans HW4.out.2) HY2.out.2.1 HNb.out.1) HNb4.out, cell_but hU (cell_but (HB3.out.trans HW4.out.2) HY2.out.2.2 HNb.out.1) HNb4.out⟩
  have HS4 : Hid (∀ U, But N4 v4 U → Tp U H.rb H.r H.q H.v → U.cell? ⟨H.rb, 0, none⟩ = some (.pointer (some ⟨H.r, 0, none⟩)) ∧ U.cell? ⟨H.rb, 1, none⟩ = some (.pointer (some ⟨H.q, 0, none⟩)) ∧ U.cell? ⟨H.rb, 2, none⟩ = some (.pointer (some ⟨H.v, 0, none⟩)) ∧ U.cell? ⟨b10, o10, none⟩ = some (.int .i64 d1) ∧ U.cell? ⟨b10, o10 + 1, none⟩ = some (.int .u64 (d2 : Int)) ∧ U.cell? ⟨b10, o10 + 2, none⟩ = some (.int .u64 (d3 : Int))) := fun U hU ht => ⟨ht.c0, ht.c1, ht.c2, cell_but hU (cell_but (HB3.out.trans HW4.out.2) HY2.out.1 HNb.out.1) HNb4.out, cell_but hU (cell_but (HB3.out.trans HW4.out.2) HY2.out.2.1 HNb.out.1) HNb4.out, cell_but hU (cell_but (HB3.out.trans HW4.out.2) HY2.out.2.2 HNb.out.1) HNb4.out⟩
  go_upto_region 20 with fail
  go_region_held3 (fun U => U.cell? ⟨H.sb, 0, none⟩ = some (.pointer (some ⟨H.A.g, 0, none⟩)) ∧ U.cell? ⟨H.sb, 1, none⟩ = some (.pointer (some ⟨H.qg, 0, none⟩)) ∧ U.cell? ⟨H.sb, 2, none⟩ = some (.pointer (some ⟨H.z.s, 0, none⟩)) ∧ U.cell? ⟨b10, o10, none⟩ = some (.int .i64 d1) ∧ U.cell? ⟨b10, o10 + 1, none⟩ = some (.int .u64 (d2 : Int)) ∧ U.cell? ⟨b10, o10 + 2, none⟩ = some (.int .u64 (d3 : Int))) (first | exact HS3.out _ HB5.out HD5.out.t1 | exact HS3.out _ (But.of (Below.refl _ _).drew) (HD4.out.later (Below.refl _ _).drew).t1 | exact HS3.out _ (But.refl _ _) HD4.out.t1) (first
    | (go_at_call 12; refine (HQ.out _ N4 sA (HD4.out.later (Below.refl _ _).drew)).mono ?_; rintro e v5 ⟨a6, cc6, rfl, hO6, hd6, hb6⟩; have HD5 := hid hd6; have HO6 := hid (hO6.mono (b := v4.heap.size) (Below.refl v4.heap.size v4).drew.size); have HB5 := hid ((But.of (S := N4) (Below.refl v4.heap.size v4).drew).trans hb6); clear hd6 hO6 hb6))
  go_upto_region 21 with fail
  go_region_held3 (fun U => U.cell? ⟨H.rb, 0, none⟩ = some (.pointer (some ⟨H.r, 0, none⟩)) ∧ U.cell? ⟨H.rb, 1, none⟩ = some (.pointer (some ⟨H.q, 0, none⟩)) ∧ U.cell? ⟨H.rb, 2, none⟩ = some (.pointer (some ⟨H.v, 0, none⟩)) ∧ U.cell? ⟨b10, o10, none⟩ = some (.int .i64 d1) ∧ U.cell? ⟨b10, o10 + 1, none⟩ = some (.int .u64 (d2 : Int)) ∧ U.cell? ⟨b10, o10 + 2, none⟩ = some (.int .u64 (d3 : Int))) (first | exact HS4.out _ (HB5.out.trans HW6.out.2) HD6.out.t2 | exact HS4.out _ (HB5.out.trans (But.of (Below.refl _ _).drew)) (HD5.out.later (Below.refl _ _).drew).t2 | exact HS4.out _ HB5.out HD5.out.t2) (first
    | (go_at_call 23; refine (HRq.out _ N4 sB HD3.out.inv (HD5.out.later (Below.refl _ _).drew)).mono ?_; rintro e v6 ⟨a7, cc7, rfl, hO7, N6, hd7, hw7, hk7⟩; have HD6 := hid hd7; have HO7 := hid hO7; have HW6 := hid ((Went.later (N := N4) (Below.refl v5.heap.size v5).drew).trans hw7); clear hd7 hO7 hw7 hk7))
  have HM3 : Hid (∀ k, v2.heap.size ≤ k → ¬ N k) := fun k hk => HNN.out k (Nat.le_trans HB2.out.size hk)
  have HR4 : Hid (Rd v6 a4 kn KL) := by
    have h1 := (HO4.out.rd HKN.out.symm).but HW4.out.2 (fun k hk => HM3.out k (HO4.out.blk k hk).1)
    have h4 : ∀ k, Blk a4 k → ¬ N4 k := fun k hk => HW4.out.out (HO4.out.blk k hk).2 (HM3.out k (HO4.out.blk k hk).1)
    exact (h1.but HB5.out h4).but HW6.out.2 h4
  have HR5 : Hid (Rd v6 a5 kn KL) := ((HO5.out.rd HKN.out.symm).but HB5.out HK5.out).but HW6.out.2 HK5.out
  have HR6 : Hid (Rd v6 a6 km KM) := (HO6.out.rd HKM.out.symm).but HW6.out.2 (fun k hk e => by have h1 := (HO6.out.blk k hk).1; have h2 := (HD4.out.rng k e).2.1; omega)
  have HR7 : Hid (Rd v6 a7 km KM) := HO7.out.rd HKM.out.symm
  have hkm2 := HBl.out HD3.out.inv
  have hkb : kn ≤ 140737488355328 := by omega
  have hkb2 : km ≤ 140737488355328 := by omega
  have hE1 : (E != E) = false := by simp
  have hE2 : (E2 != E2) = false := by simp
  go_upto_region 24 with (first
    | (go_at_call 24; refine (sameC_any _ _ (HR6.out.later HZ7.out) (HR7.out.later HZ7.out) hkb2 hkb2).mono ?_; rintro e v8 ⟨rfl, q8, hw8⟩; have HZ8 : Hid (Below v6.heap.size v6 v8) := (by unfold Hid; rw [hw8]; exact below_drewN HZ7.out q8); rw [show decide (KM = KM) = true by simp]; clear hw8)
    | (go_at_call 24; refine (sameC_any _ _ HR4.out HR5.out hkb hkb).mono ?_; rintro e v7 ⟨rfl, q7, hw7⟩; have HZ7 : Hid (Below v6.heap.size v6 v7) := (by unfold Hid; rw [hw7]; exact below_drewN (Below.refl _ _) q7); rw [show decide (KL = KL) = true by simp]; clear hw7))
  obtain ⟨col1, g8, A8, I8, La, Lc⟩ := f2_lists HG.out HA.out HI.out HB2.out HO4.out HKN.out.symm HB3.out HW4.out (fun k hk => (HD4.out.rng k hk).2.1) HO6.out HKM.out.symm HB5.out HW6.out (fun k hk => (HD6.out.rng k hk).2.1) HZ8.out
  obtain ⟨a9, c9, u, happ, HApp⟩ := f2_app (by have := HN.out; have := HNn.out; have := HIn.out; omega) g8 A8 I8 La Lc HK2.out (by rw [← HKN.out]; exact hkl) (by rw [← HKM.out]; exact hkm2)
  have HRUN := hid happ
  have hi8 : i < 8 := by have := HIn.out; have := HNn.out; omega
  clear g8 A8 I8 La Lc hE1 hE2 hkb hkb2 happ
  go_wp2_with (first | (at_builtin; refine wpList_append_known rfl _ _ 65 rfl _ _ rfl rfl _ u HRUN.out ?_))
  obtain ⟨col2, T', K', g9, A9, I9, l9, d9⟩ := HApp.out
  refine HK.out a9 c9 _ ⟨sB, N6, col2, T', K', HBf.out (HAf.out HD3.out.inv) HD5.out.inv, d9 _ _ _ (HD6.out.later HZ8.out), g9, A9, I9, l9, fun j hj z hz => ?_⟩ ..
  have hne : obj ≠ z := fun e => by
    obtain ⟨p1, p2⟩ := List.getElem?_eq_some_iff.1 HObj.out
    obtain ⟨p3, p4⟩ := List.getElem?_eq_some_iff.1 hz
    have := List.pairwise_iff_getElem.1 HP.out i j p1 p3 (by omega)
    rw [p2, p4] at this
    omega
  rw [HBo.out HD3.out.inv z hne, HAo.out z hne]
  exact HRest.out j (by omega) z hz
end Go.Proofs.YtnjadfgfpebkdaaGreat.D
