import Derived.Test.YtejkbeeffllpfaaLD
import Derived.Test.YtejkbeeffllpfaaLE
import Derived.Test.YtejkbeeffllpfaaLG
import Derived.Test.YtejkbeeffllpfaaLI
namespace Go.Proofs.Ytejkbeeffllpfaa
open Go.RowKit
set_option linter.unusedVariables false
set_option linter.unusedSimpArgs false

set_option maxRecDepth 1000000 in
set_option maxHeartbeats 4000000 in
theorem lv_round {u1 u2 u4 u10 u11 u12 u13 u14 u15 u16 u17 u18 u19 u20 u21 u22 u23 u24 u25 u26 u27 u28 u29 u30 u31 u32 u33 u34 u35 u36 u37 u38 u39 u40 u41 u42 u43 u44 u45 u46 u47 u48 u49 u50 u51 u52 u53 u54 u55 u56 u57 u58 u59 u60 u61 u62 u63 u64 u65 u66 u67 u68 u69 u70 u71 u72 u73 u74 u75 u76 u77 u78 u79 u80 u81 u82 u83 u84 u85 u86 u87 u88 u89 u90 u91 u92 u93 u94 u95 u96 u97 u98 u99 u100 u101 u102 u103 u104 u105 u106 u107 u108 u109 u110 u111 u112 u113 u114 u115 u116 u117 u118 u119 u120 u121 u122 u123 u124 u125 u126 u127 u128 u129 u130 u131 u132 u133 u134 u135 u136 u137 u138 u139 u140 u141 u142 u143 u144 u145 u146 u147 u148 u149 u150 u151 u152 u153 u154 u155 u156 u157 u158 u159 u160 u161 u162 u163 u164 u165 u166 u167 u168 u169 u170 u171 u172 u173 u174 u175 u176 u177 u178 u179 u180 u181 u182 u183 u184 u185 u186 u187 u188 u189 u190 u191 u192 u193 u194 u195 u196 u197 u198 u199 u200 u201 u202 u203 u204 u205 u206 u207 u208 u209 u210 u211 u212 u213 u214 u215 u216 u217 u218 u219 u220 u221 u222 u223 u224 u225 u226 u227 u228 u229 u230 u231 u232 u233 u234 u235 u236 u237 u238 u239 u240 u241 u242 u243 u244 u245 u246 u247 u248 u249 u250 u251 u252 u253 u254 u255 u256 u257 u258 u259 u260 u261 u262 u263 u264 u265 u266 u267 u268 u269 u270 u271 u272 u273 u274 u275 u276 u277 u278 u279 u280 u281 u282 u283 u284 u285 u286 u287 u288 u289 u290 u291 u292 u293 u294 u295 u296 u297 u298 u299 u300 u301 u302 u303 u304 u305 u306 u307 u308 u309 u310 : Value} {Q : Exit → Act → World → Prop} (w : World) (z : Sid) (nx : Int) (Os : List Ob) (G : Int → Nat) (col : Nat → Nat) (aI : Option Addr) (cI : Nat) (aS : Option Addr) (cS : Nat) (aW : Option Addr) (cW : Nat) (b o k cap i L : Nat) (fi : Lif) (wr : World) (hN : z.n = 32) (hRM : z.room = 8) (hL : L = Os.length) (hk : k ≤ 4611686018427387000) (hnx : nx ≤ (i : Int) + 1) (hV : Lv wr w.heap.size col z nx Os Os G aI cI aS cS aW cW) (hB : Below w.heap.size w wr) (hlt : i < k) (hkc : k ≤ cap) (hC : w.rangeAt b (o + i * 4) (lifCells fi).toList) (hIN : LifIn w fi) (hP : ∀ c a d v w, Q (.panic c) (Act.put a d v) w → Q (.panic c) a w)
    (hK : ∀ (L' : Nat) (nx' : Int) (Os' : List Ob) (G' : Int → Nat) (col' : Nat → Nat) (aI' : Option Addr) (cI' : Nat) (aS' : Option Addr) (cS' : Nat) (aW' : Option Addr) (cW' : Nat) (w' : World), L' = Os'.length ∧ nx' ≤ (i : Int) + 2 ∧ Lv w' w.heap.size col' z nx' Os' Os' G' aI' cI' aS' cS' aW' cW' ∧ Below w.heap.size w w' → ∀ (v2 v10 v11 v12 v13 v14 v15 v16 v17 v18 v19 v20 v21 v22 v23 v38 v39 v40 v41 v42 v43 v44 v45 v46 v47 v48 v49 v50 v51 v52 v53 v54 v55 v56 v57 v58 v59 v60 v61 v62 v63 v64 v65 v66 v67 v68 v69 v70 v71 v72 v73 v74 v75 v76 v77 v78 v79 v80 v81 v82 v83 v84 v85 v86 v87 v88 v89 v90 v91 v92 v93 v94 v95 v96 v97 v98 v99 v100 v101 v102 v103 v104 v105 v106 v107 v108 v109 v110 v111 v112 v113 v114 v115 v116 v117 v118 v119 v120 v121 v122 v123 v124 v125 v126 v127 v128 v129 v130 v131 v132 v133 v134 v135 v136 v137 v138 v139 v140 v141 v142 v143 v144 v145 v146 v147 v148 v149 v150 v151 v152 v153 v154 v155 v156 v157 v158 v159 v160 v161 v162 v163 v164 v165 v166 v167 v168 v169 v170 v171 v172 v173 v174 v175 v176 v177 v178 v179 v180 v181 v182 v183 v184 v185 v186 v187 v188 v189 v190 v191 v192 v193 v194 v195 v196 v197 v198 v199 v200 v201 v202 v203 v204 v205 v206 v207 v208 v209 v210 v211 v212 v213 v214 v215 v216 v217 v218 v219 v220 v221 v222 v223 v224 v225 v226 v227 v228 v229 v230 v231 v232 v233 v234 v235 v236 v237 v238 v239 v240 v241 v242 v243 v244 v245 v246 v247 v248 v249 v250 v251 v252 v253 v254 v255 v256 v257 v258 v259 v260 v261 v262 v263 v264 v265 v266 v267 v268 v269 v270 v271 v272 v273 v274 v275 v276 v277 v278 v279 v280 v281 v282 v283 v284 v285 v286 v287 v288 v289 v290 : Value), Q .normal ⟨List.toArray (.slice (some ⟨b, o, none⟩) k cap :: u1 :: v2 :: .pointer (some ⟨z.s, 0, none⟩) :: u4 :: .slice aI' L' cI' :: .slice aS' L' cS' :: .slice aW' L' cW' :: .int .i64 (nx' - 1) :: .int .i64 ((i : Int) + 1) :: v10 :: v11 :: v12 :: v13 :: v14 :: v15 :: v16 :: v17 :: v18 :: v19 :: v20 :: v21 :: v22 :: v23 :: u24 :: u25 :: u26 :: u27 :: u28 :: u29 :: u30 :: u31 :: u32 :: u33 :: u34 :: u35 :: u36 :: u37 :: v38 :: v39 :: v40 :: v41 :: v42 :: v43 :: v44 :: v45 :: v46 :: v47 :: v48 :: v49 :: v50 :: v51 :: v52 :: v53 :: v54 :: v55 :: v56 :: v57 :: v58 :: v59 :: v60 :: v61 :: v62 :: v63 :: v64 :: v65 :: v66 :: v67 :: v68 :: v69 :: v70 :: v71 :: v72 :: v73 :: v74 :: v75 :: v76 :: v77 :: v78 :: v79 :: v80 :: v81 :: v82 :: v83 :: v84 :: v85 :: v86 :: v87 :: v88 :: v89 :: v90 :: v91 :: v92 :: v93 :: v94 :: v95 :: v96 :: v97 :: v98 :: v99 :: v100 :: v101 :: v102 :: v103 :: v104 :: v105 :: v106 :: v107 :: v108 :: v109 :: v110 :: v111 :: v112 :: v113 :: v114 :: v115 :: v116 :: v117 :: v118 :: v119 :: v120 :: v121 :: v122 :: v123 :: v124 :: v125 :: v126 :: v127 :: v128 :: v129 :: v130 :: v131 :: v132 :: v133 :: v134 :: v135 :: v136 :: v137 :: v138 :: v139 :: v140 :: v141 :: v142 :: v143 :: v144 :: v145 :: v146 :: v147 :: v148 :: v149 :: v150 :: v151 :: v152 :: v153 :: v154 :: v155 :: v156 :: v157 :: v158 :: v159 :: v160 :: v161 :: v162 :: v163 :: v164 :: v165 :: v166 :: v167 :: v168 :: v169 :: v170 :: v171 :: v172 :: v173 :: v174 :: v175 :: v176 :: v177 :: v178 :: v179 :: v180 :: v181 :: v182 :: v183 :: v184 :: v185 :: v186 :: v187 :: v188 :: v189 :: v190 :: v191 :: v192 :: v193 :: v194 :: v195 :: v196 :: v197 :: v198 :: v199 :: v200 :: v201 :: v202 :: v203 :: v204 :: v205 :: v206 :: v207 :: v208 :: v209 :: v210 :: v211 :: v212 :: v213 :: v214 :: v215 :: v216 :: v217 :: v218 :: v219 :: v220 :: v221 :: v222 :: v223 :: v224 :: v225 :: v226 :: v227 :: v228 :: v229 :: v230 :: v231 :: v232 :: v233 :: v234 :: v235 :: v236 :: v237 :: v238 :: v239 :: v240 :: v241 :: v242 :: v243 :: v244 :: v245 :: v246 :: v247 :: v248 :: v249 :: v250 :: v251 :: v252 :: v253 :: v254 :: v255 :: v256 :: v257 :: v258 :: v259 :: v260 :: v261 :: v262 :: v263 :: v264 :: v265 :: v266 :: v267 :: v268 :: v269 :: v270 :: v271 :: v272 :: v273 :: v274 :: v275 :: v276 :: v277 :: v278 :: v279 :: v280 :: v281 :: v282 :: v283 :: v284 :: v285 :: v286 :: v287 :: v288 :: v289 :: v290 :: u291 :: u292 :: u293 :: u294 :: u295 :: u296 :: u297 :: u298 :: u299 :: u300 :: u301 :: u302 :: u303 :: u304 :: u305 :: u306 :: u307 :: u308 :: u309 :: u310 :: []), []⟩ w') :
    Code.wp Try.prog (pI (pI (pR (pL (rs 6 (Try.f3.body.getD .skip)))))) Q ⟨List.toArray (.slice (some ⟨b, o, none⟩) k cap :: u1 :: u2 :: .pointer (some ⟨z.s, 0, none⟩) :: u4 :: .slice aI L cI :: .slice aS L cS :: .slice aW L cW :: .int .i64 (nx - 1) :: .int .i64 (i : Int) :: u10 :: u11 :: u12 :: u13 :: u14 :: u15 :: u16 :: u17 :: u18 :: u19 :: u20 :: u21 :: u22 :: u23 :: u24 :: u25 :: u26 :: u27 :: u28 :: u29 :: u30 :: u31 :: u32 :: u33 :: u34 :: u35 :: u36 :: u37 :: u38 :: u39 :: u40 :: u41 :: u42 :: u43 :: u44 :: u45 :: u46 :: u47 :: u48 :: u49 :: u50 :: u51 :: u52 :: u53 :: u54 :: u55 :: u56 :: u57 :: u58 :: u59 :: u60 :: u61 :: u62 :: u63 :: u64 :: u65 :: u66 :: u67 :: u68 :: u69 :: u70 :: u71 :: u72 :: u73 :: u74 :: u75 :: u76 :: u77 :: u78 :: u79 :: u80 :: u81 :: u82 :: u83 :: u84 :: u85 :: u86 :: u87 :: u88 :: u89 :: u90 :: u91 :: u92 :: u93 :: u94 :: u95 :: u96 :: u97 :: u98 :: u99 :: u100 :: u101 :: u102 :: u103 :: u104 :: u105 :: u106 :: u107 :: u108 :: u109 :: u110 :: u111 :: u112 :: u113 :: u114 :: u115 :: u116 :: u117 :: u118 :: u119 :: u120 :: u121 :: u122 :: u123 :: u124 :: u125 :: u126 :: u127 :: u128 :: u129 :: u130 :: u131 :: u132 :: u133 :: u134 :: u135 :: u136 :: u137 :: u138 :: u139 :: u140 :: u141 :: u142 :: u143 :: u144 :: u145 :: u146 :: u147 :: u148 :: u149 :: u150 :: u151 :: u152 :: u153 :: u154 :: u155 :: u156 :: u157 :: u158 :: u159 :: u160 :: u161 :: u162 :: u163 :: u164 :: u165 :: u166 :: u167 :: u168 :: u169 :: u170 :: u171 :: u172 :: u173 :: u174 :: u175 :: u176 :: u177 :: u178 :: u179 :: u180 :: u181 :: u182 :: u183 :: u184 :: u185 :: u186 :: u187 :: u188 :: u189 :: u190 :: u191 :: u192 :: u193 :: u194 :: u195 :: u196 :: u197 :: u198 :: u199 :: u200 :: u201 :: u202 :: u203 :: u204 :: u205 :: u206 :: u207 :: u208 :: u209 :: u210 :: u211 :: u212 :: u213 :: u214 :: u215 :: u216 :: u217 :: u218 :: u219 :: u220 :: u221 :: u222 :: u223 :: u224 :: u225 :: u226 :: u227 :: u228 :: u229 :: u230 :: u231 :: u232 :: u233 :: u234 :: u235 :: u236 :: u237 :: u238 :: u239 :: u240 :: u241 :: u242 :: u243 :: u244 :: u245 :: u246 :: u247 :: u248 :: u249 :: u250 :: u251 :: u252 :: u253 :: u254 :: u255 :: u256 :: u257 :: u258 :: u259 :: u260 :: u261 :: u262 :: u263 :: u264 :: u265 :: u266 :: u267 :: u268 :: u269 :: u270 :: u271 :: u272 :: u273 :: u274 :: u275 :: u276 :: u277 :: u278 :: u279 :: u280 :: u281 :: u282 :: u283 :: u284 :: u285 :: u286 :: u287 :: u288 :: u289 :: u290 :: u291 :: u292 :: u293 :: u294 :: u295 :: u296 :: u297 :: u298 :: u299 :: u300 :: u301 :: u302 :: u303 :: u304 :: u305 :: u306 :: u307 :: u308 :: u309 :: u310 :: []), []⟩ wr := by
  conv => arg 2; whnf
  have HK := hid hK
  have HP := hid hP
  have HLv := hid hV
  have HL := hid hL
  have HB := hid hB
  have HN := hid hN
  have HRM := hid hRM
  have HNX := hid hnx
  have HC := hid hC
  have HIN := hid hIN
  have hL8 : L ≤ 8 := by rw [hL, ← hRM]; exact hV.st.rm
  have hd : decide ((i : Int) < (k : Int)) = true := decide_eq_true (by omega)
  have y0 := (lif_cells HB.out HC.out).1
  obtain ⟨q, hq, hq1⟩ := low10 fi.sz
  clear hK hP hV hL hB hN hRM hnx hC hIN
  go_upto_region 13 with fail
  clear hq y0
  have HU : Hid (usedN Os ≤ 32) := hid (by have := HLv.out.st.used.1; rw [HN.out] at this; exact this)
  refine lv_b2 Os aI cI aS L cS wr HL.out hL8 HU.out (by rw [HL.out]; exact HLv.out.rS.row) HLv.out.sml ?_
  intro w' hw
  obtain rfl := hw.symm
  intros
  obtain ⟨E, hE⟩ : ∃ E, E = mayE z.room z.n nx Os (q : Int) := ⟨_, rfl⟩
  have HE := hid hE
  obtain ⟨nq, hnq⟩ : ∃ nq, nq = needN q := ⟨_, rfl⟩
  have HNQ1 : Hid (((q : Int) + 63) / 64 = (nq : Int)) := hid (by rw [hnq]; unfold needN; omega)
  have HNQ2 : Hid (nq ≤ 16) := hid (by rw [hnq]; unfold needN; omega)
  have HEV : Hid (E = if 8 ≤ L then 7 else if 32 - usedN Os < nq then 8 else 0) := hid (by
    have h1 := HNX.out
    rw [hE, HRM.out, HN.out]
    unfold mayE
    rw [if_neg (by omega), Int.toNat_natCast, ← hnq, ← HL.out]
    by_cases h8 : 8 ≤ L
    · rw [if_pos (.inl h8), if_pos h8]
    · rw [if_neg (by omega), if_neg h8])
  clear hE hnq hw
  go_upto_region 17 with (first | (go_at_call 8; refine (st_create_any z nx Os q _ HLv.out.st).mono ?_; rintro e w3 ⟨id, nx3, Ps, rfl, hc0, hc1, hrb, S3, B3⟩; rw [← HE.out]; rw [← HE.out] at hc0 hc1))
  obtain ⟨col3, hLv3⟩ := HLv.out.call B3 S3 hrb
  have HLv3 := hid hLv3
  have HB3 := hid (HB.out.trans (HLv.out.below B3 (fun j hj => by rw [HLv.out.kZ j hj]; decide)))
  have HC0 := hid hc0
  have HC1 := hid hc1
  have HU3 : Hid (z.n - usedN Ps ≤ 32 - usedN Os) := hid (by
    rw [HN.out]
    by_cases hE0 : E = 0
    · obtain ⟨_, _, P, a, e⟩ := hc0 hE0
      rw [e, usedN_append]
      omega
    · rw [(hc1 hE0).2]
      exact Nat.le_refl _)
  clear hLv3 hc0 hc1 hrb S3 B3
  refine lv_r17 z nx3 Ps aI L cI q (usedN Os) nq _ E w3 HLv3.out.st rfl HU3.out HU.out hL8 hq1 HNQ1.out HNQ2.out HEV.out ?_
  intro w4 b4
  intros
  have HLv4 := hid (HLv3.out.later b4)
  have HB4 := hid (HB3.out.trans (b4.mono HLv3.out.hb))
  clear b4
  go_upto_if 92 with fail
  refine lv_if92 w.heap.size col3 z nx3 Ps Os G aI cI aS cS aW cW L q nx id E _ w4 HLv4.out HL.out hL8 hq1 (by first | rfl | simp) HLv.out.st.nx1.1 HLv.out.st.nx1.2 (fun e => ⟨(HC0.out e).1, (HC0.out e).2.1, HLv.out.st.ids, (HC0.out e).2.2⟩) HC1.out (fun _ _ _ _ _ h => HP.out _ _ _ _ _ h) ?_
  rintro col5 G5 aI5 L5 cI5 aS5 cS5 aW5 cW5 w5 ⟨hL5, hLv5, hB5⟩
  intros
  have HL5 := hid hL5
  have HLv5 := hid hLv5
  have HB5 := hid (HB4.out.trans hB5)
  have hL58 : L5 ≤ 8 := by rw [hL5, ← HRM.out]; exact hLv5.st.rm
  have HNX5 : Hid (nx3 ≤ (i : Int) + 2) := hid (by
    have h1 := HNX.out
    by_cases hE0 : E = 0
    · have := (HC0.out hE0).2.1; omega
    · have := (HC1.out hE0).1; omega)
  clear hL5 hLv5 hB5
  by_cases h0 : L5 = 0
  · subst h0
    go_wp2
    exact HK.out _ _ _ _ _ _ _ _ _ _ _ _ ⟨HL5.out, HNX5.out, HLv5.out, HB5.out⟩ ..
  · have hl0 : (L5 == 0) = false := by simp [h0]
    have hl1 : ((L5 : Int) == 0) = false := by simp [h0]
    have y1 := (lif_cells HB5.out HC.out).2.1
    obtain ⟨q8, hq8, hq81⟩ := low8 fi.of
    obtain ⟨off, hof, hof1⟩ := low10 fi.of
    obtain ⟨kk, hkk, hkl⟩ : ∃ kk : Nat, (q8 : Int) % (L5 : Int) = (kk : Int) ∧ kk < L5 := ⟨q8 % L5, by rw [Int.natCast_emod], Nat.mod_lt _ (by omega)⟩
    go_upto_region 28 with fail
    try rw [hkk]
    have hio : kk < Ps.length := by have := HL5.out; omega
    obtain ⟨ob, hob⟩ : ∃ ob, ob = Ps[kk] := ⟨_, rfl⟩
    have HOB := hid hob
    have HMEM : Hid (ob ∈ Ps) := hid (by rw [hob]; exact List.getElem_mem hio)
    have HAT : Hid (at? Ps ob.id = some ob) := hid (by rw [hob]; exact at_at HLv5.out.st.rise hio)
    have hbb : b < w.heap.size := World.block_lt_of_cell? _ _ (HC.out 0 _ rfl)
    have HDA : Hid (0 < fi.md → ∀ j, Blk fi.da j → j < w.heap.size) := hid (fun h0 j hj => blk_lt HIN.out.rd h0 j hj)
    clear hob y1 hq8 hof hl0 hl1 hkk
    refine lv_r28 w.heap.size col5 z nx3 Ps G5 aI5 cI5 aS5 cS5 aW5 cW5 L5 b o k cap i kk off fi.da fi.md fi.cd fi.D ob.id w5 HLv5.out HL5.out hL58 hkl (fun h => by rw [HOB.out]) hlt hkc (lif_cells HB5.out HC.out).2.2.1 hbb (HIN.out.rd.later HB5.out) HIN.out.small HDA.out ?_
    rintro col6 w6 ⟨hLv6, hB6⟩
    intros
    have HLv6 := hid hLv6
    have HB6 := hid (HB5.out.trans hB6)
    clear hLv6 hB6
    have HD : Hid (ob.data.length ≤ 1023) := hid (HLv5.out.sml ob HMEM.out)
    go_upto_region 29 with fail
    refine lv_r29 Ps aS5 cS5 L5 b o k cap i kk off ob.data.length fi.da fi.md fi.cd _ w6 (by rw [HL5.out]; exact HLv6.out.rS.row) HL5.out hkl (fun h => by rw [HOB.out]) hlt hkc HD.out hof1 HIN.out.hd (lif_cells HB6.out HC.out).2.2.1 (rdE_at HAT.out off fi.md) ?_
    intro w7 b7
    intros
    have HLv7 := hid (HLv6.out.later b7)
    have HB7 := hid (HB6.out.trans (b7.mono HLv6.out.hb))
    clear b7
    have HKG : Hid (col6 (G5 ob.id) = 10 + ob.id.toNat) := hid (HLv7.out.kG ob HMEM.out)
    have HGE : Hid (w.heap.size ≤ G5 ob.id) := hid (HLv7.out.ge _ (by rw [HKG.out]; omega))
    have HLD : Hid (fi.D.length = fi.md) := hid (by have := HIN.out.rd.len; rwa [u8s_length] at this)
    go_upto_region 32 with fail
    refine lv_b4 (Ps.map (wv G5)) aW5 L5 cW5 b o k cap i kk off (G5 ob.id) ob.data.length fi.da fi.md fi.cd ob.data fi.D _ w7 (by rw [HL5.out]; exact HLv7.out.rW.row) hkl (by rw [List.getElem?_map, List.getElem?_eq_getElem hio, ← HOB.out]; rfl) (fun j hj e => by have h1 := HLv7.out.kW j hj; have h2 := HKG.out; rw [e] at h1; omega) hlt hkc (fun e => by have := HGE.out; omega) (lif_cells HB7.out HC.out).2.2.1 (HIN.out.rd.later HB7.out) (fun h0 j hj e => by have h1 := HDA.out h0 j hj; have h2 := HGE.out; omega) HD.out hof1 HIN.out.hd (fun e => by rw [rdE_at HAT.out off fi.md] at e; split at e <;> omega) (HLv7.out.cel ob HMEM.out) (fun _ _ _ _ _ h => HP.out _ _ _ _ _ h) ?_
    rintro w8 ⟨hB8, hC8⟩
    intros
    have HLv8 : Hid (Lv w8 w.heap.size col6 z nx3 (wrO Ps ob.id (off : Int) fi.D) (wrO Ps ob.id (off : Int) fi.D) G5 aI5 cI5 aS5 cS5 aW5 cW5) := hid (HLv7.out.wrote rfl HAT.out HLv5.out.st.rise (fun p hp => (HLv5.out.st.ids p hp).1) hB8 (by
      rw [HLD.out, Int.toNat_natCast]
      exact hC8))
    have HB8 := hid (HB7.out.trans (HLv7.out.below hB8 (fun j e => by rw [e, HKG.out]; omega)))
    have HL8 : Hid (L5 = (wrO Ps ob.id (off : Int) fi.D).length) := hid (by rw [HL5.out]; unfold wrO; split <;> simp)
    clear hB8 hC8
    go_upto_region 36 with fail
    refine lv_b6 w.heap.size col6 z nx3 _ G5 aI5 cI5 aS5 cS5 aW5 cW5 L5 w8 HLv8.out HL8.out hL58 ?_
    intro w9 b9
    intros
    have HLv9 := hid (HLv8.out.later b9)
    have HB9 := hid (HB8.out.trans (b9.mono HLv8.out.hb))
    clear b9
    have y3 := (lif_cells HB9.out HC.out).2.2.2
    go_upto_if 247 with fail
    refine lv_if247 w.heap.size col6 z nx3 _ G5 aI5 cI5 aS5 cS5 aW5 cW5 L5 kk fi.gone w9 HLv9.out HL8.out hL58 hkl (fun _ _ _ _ _ h => HP.out _ _ _ _ _ h) ?_
    rintro col' G' aI' L' cI' aS' cS' aW' cW' Os' w10 ⟨hL', hle, hLv', hB'⟩
    intros
    have HL' := hid hL'
    have HLv' := hid hLv'
    have HB' := hid (HB9.out.trans hB')
    clear hL' hLv' hB' y3
    go_wp2
    exact HK.out _ _ _ _ _ _ _ _ _ _ _ _ ⟨HL'.out, HNX5.out, HLv'.out, HB'.out⟩ ..
end Go.Proofs.Ytejkbeeffllpfaa
