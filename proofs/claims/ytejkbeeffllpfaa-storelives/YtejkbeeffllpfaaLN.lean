import Derived.Test.YtejkbeeffllpfaaLB
namespace Go.Proofs.Ytejkbeeffllpfaa
open Go.RowKit
set_option linter.unusedVariables false
set_option linter.unusedSimpArgs false

def slN : Value → Nat
  | .slice _ n _ => n
  | _ => 0
/-- The numbers that are left. -/
def EnRel (w : World) (base : Nat) (z : Sid) (nx : Int) (v : Value) (w' : World) : Prop := ∃ (Ps : List Ob) (L : Nat) (a : Option Addr) (c : Nat), v = .slice a L c ∧ L = Ps.length ∧ L ≤ 8 ∧ St w' z nx Ps ∧ Row w' a L c (ints (Ps.map Ob.id)) ∧ (∀ k, Blk a k → ¬ Zb z k) ∧ Below base w w'
set_option maxRecDepth 1000000 in
set_option maxHeartbeats 4000000 in
theorem lv_b8 {u0 u1 u2 u4 u6 u7 u8 u9 u10 u11 u12 u13 u14 u15 u16 u17 u18 u19 u20 u21 u22 u23 u24 u25 u26 u27 u28 u29 u30 u31 u32 u33 u34 u35 u36 u37 u38 u39 u40 u41 u42 u43 u44 u45 u46 u47 u48 u49 u50 u51 u52 u53 u54 u55 u56 u57 u58 u59 u60 u61 u62 u63 u64 u65 u66 u67 u68 u69 u70 u71 u72 u73 u74 u75 u76 u77 u78 u79 u80 u81 u82 u83 u84 u85 u86 u87 u88 u89 u90 u91 u92 u93 u94 u95 u96 u97 u98 u99 u100 u101 u102 u103 u104 u105 u106 u107 u108 u109 u110 u111 u112 u113 u114 u115 u116 u117 u118 u119 u120 u121 u122 u123 u124 u125 u126 u127 u128 u129 u130 u131 u132 u133 u134 u135 u136 u137 u138 u139 u140 u141 u142 u143 u144 u145 u146 u147 u148 u149 u150 u151 u152 u153 u154 u155 u156 u157 u158 u159 u160 u161 u162 u163 u164 u165 u166 u167 u168 u169 u170 u171 u172 u173 u174 u175 u176 u177 u178 u179 u180 u181 u182 u183 u184 u185 u186 u187 u188 u189 u190 u191 u192 u193 u194 u195 u196 u197 u198 u199 u200 u201 u202 u203 u204 u205 u206 u207 u208 u209 u210 u211 u212 u213 u214 u215 u216 u217 u218 u219 u220 u221 u222 u223 u224 u225 u226 u227 u228 u229 u230 u231 u232 u233 u234 u235 u236 u237 u238 u239 u240 u241 u242 u243 u244 u245 u246 u247 u248 u249 u250 u251 u252 u253 u254 u255 u256 u257 u258 u259 u260 u261 u262 u263 u264 u265 u266 u267 u268 u269 u270 u271 u272 u273 u274 u275 u276 u277 u278 u279 u280 u281 u282 u283 u284 u285 u286 u287 u288 u289 u290 u291 u292 u293 u294 u295 u296 u297 u298 u299 u300 u301 u302 u303 u304 u305 u306 u307 u308 u309 u310 : Value} {Q : Exit → Act → World → Prop} (base : Nat) (z : Sid) (nx : Int) (Os : List Ob) (aI : Option Addr) (cI L : Nat) (w : World) (hS : St w z nx Os) (hR : Row w aI L cI (ints (Os.map Ob.id))) (hL : L = Os.length) (hL8 : L ≤ 8) (hz : ∀ k, Blk aI k → ¬ Zb z k) (hzb : ∀ k, Zb z k → base ≤ k) (hb : base ≤ w.heap.size) 
    (hK : ∀ (a' : Option Addr) (c' : Nat) (w' : World), St w' z nx [] ∧ Below base w w' → ∀ (v2 v291 v292 v293 v294 v295 v296 v297 v298 v299 v300 v301 : Value), Q (.exit 8) ⟨List.toArray (u0 :: u1 :: v2 :: .pointer (some ⟨z.s, 0, none⟩) :: u4 :: .slice a' 0 c' :: u6 :: u7 :: u8 :: u9 :: u10 :: u11 :: u12 :: u13 :: u14 :: u15 :: u16 :: u17 :: u18 :: u19 :: u20 :: u21 :: u22 :: u23 :: u24 :: u25 :: u26 :: u27 :: u28 :: u29 :: u30 :: u31 :: u32 :: u33 :: u34 :: u35 :: u36 :: u37 :: u38 :: u39 :: u40 :: u41 :: u42 :: u43 :: u44 :: u45 :: u46 :: u47 :: u48 :: u49 :: u50 :: u51 :: u52 :: u53 :: u54 :: u55 :: u56 :: u57 :: u58 :: u59 :: u60 :: u61 :: u62 :: u63 :: u64 :: u65 :: u66 :: u67 :: u68 :: u69 :: u70 :: u71 :: u72 :: u73 :: u74 :: u75 :: u76 :: u77 :: u78 :: u79 :: u80 :: u81 :: u82 :: u83 :: u84 :: u85 :: u86 :: u87 :: u88 :: u89 :: u90 :: u91 :: u92 :: u93 :: u94 :: u95 :: u96 :: u97 :: u98 :: u99 :: u100 :: u101 :: u102 :: u103 :: u104 :: u105 :: u106 :: u107 :: u108 :: u109 :: u110 :: u111 :: u112 :: u113 :: u114 :: u115 :: u116 :: u117 :: u118 :: u119 :: u120 :: u121 :: u122 :: u123 :: u124 :: u125 :: u126 :: u127 :: u128 :: u129 :: u130 :: u131 :: u132 :: u133 :: u134 :: u135 :: u136 :: u137 :: u138 :: u139 :: u140 :: u141 :: u142 :: u143 :: u144 :: u145 :: u146 :: u147 :: u148 :: u149 :: u150 :: u151 :: u152 :: u153 :: u154 :: u155 :: u156 :: u157 :: u158 :: u159 :: u160 :: u161 :: u162 :: u163 :: u164 :: u165 :: u166 :: u167 :: u168 :: u169 :: u170 :: u171 :: u172 :: u173 :: u174 :: u175 :: u176 :: u177 :: u178 :: u179 :: u180 :: u181 :: u182 :: u183 :: u184 :: u185 :: u186 :: u187 :: u188 :: u189 :: u190 :: u191 :: u192 :: u193 :: u194 :: u195 :: u196 :: u197 :: u198 :: u199 :: u200 :: u201 :: u202 :: u203 :: u204 :: u205 :: u206 :: u207 :: u208 :: u209 :: u210 :: u211 :: u212 :: u213 :: u214 :: u215 :: u216 :: u217 :: u218 :: u219 :: u220 :: u221 :: u222 :: u223 :: u224 :: u225 :: u226 :: u227 :: u228 :: u229 :: u230 :: u231 :: u232 :: u233 :: u234 :: u235 :: u236 :: u237 :: u238 :: u239 :: u240 :: u241 :: u242 :: u243 :: u244 :: u245 :: u246 :: u247 :: u248 :: u249 :: u250 :: u251 :: u252 :: u253 :: u254 :: u255 :: u256 :: u257 :: u258 :: u259 :: u260 :: u261 :: u262 :: u263 :: u264 :: u265 :: u266 :: u267 :: u268 :: u269 :: u270 :: u271 :: u272 :: u273 :: u274 :: u275 :: u276 :: u277 :: u278 :: u279 :: u280 :: u281 :: u282 :: u283 :: u284 :: u285 :: u286 :: u287 :: u288 :: u289 :: u290 :: v291 :: v292 :: v293 :: v294 :: v295 :: v296 :: v297 :: v298 :: v299 :: v300 :: v301 :: u302 :: u303 :: u304 :: u305 :: u306 :: u307 :: u308 :: u309 :: u310 :: []), []⟩ w') :
    Code.wp Try.prog (pI (pL (rs 7 (Try.f3.body.getD .skip)))) Q ⟨List.toArray (u0 :: u1 :: u2 :: .pointer (some ⟨z.s, 0, none⟩) :: u4 :: .slice aI L cI :: u6 :: u7 :: u8 :: u9 :: u10 :: u11 :: u12 :: u13 :: u14 :: u15 :: u16 :: u17 :: u18 :: u19 :: u20 :: u21 :: u22 :: u23 :: u24 :: u25 :: u26 :: u27 :: u28 :: u29 :: u30 :: u31 :: u32 :: u33 :: u34 :: u35 :: u36 :: u37 :: u38 :: u39 :: u40 :: u41 :: u42 :: u43 :: u44 :: u45 :: u46 :: u47 :: u48 :: u49 :: u50 :: u51 :: u52 :: u53 :: u54 :: u55 :: u56 :: u57 :: u58 :: u59 :: u60 :: u61 :: u62 :: u63 :: u64 :: u65 :: u66 :: u67 :: u68 :: u69 :: u70 :: u71 :: u72 :: u73 :: u74 :: u75 :: u76 :: u77 :: u78 :: u79 :: u80 :: u81 :: u82 :: u83 :: u84 :: u85 :: u86 :: u87 :: u88 :: u89 :: u90 :: u91 :: u92 :: u93 :: u94 :: u95 :: u96 :: u97 :: u98 :: u99 :: u100 :: u101 :: u102 :: u103 :: u104 :: u105 :: u106 :: u107 :: u108 :: u109 :: u110 :: u111 :: u112 :: u113 :: u114 :: u115 :: u116 :: u117 :: u118 :: u119 :: u120 :: u121 :: u122 :: u123 :: u124 :: u125 :: u126 :: u127 :: u128 :: u129 :: u130 :: u131 :: u132 :: u133 :: u134 :: u135 :: u136 :: u137 :: u138 :: u139 :: u140 :: u141 :: u142 :: u143 :: u144 :: u145 :: u146 :: u147 :: u148 :: u149 :: u150 :: u151 :: u152 :: u153 :: u154 :: u155 :: u156 :: u157 :: u158 :: u159 :: u160 :: u161 :: u162 :: u163 :: u164 :: u165 :: u166 :: u167 :: u168 :: u169 :: u170 :: u171 :: u172 :: u173 :: u174 :: u175 :: u176 :: u177 :: u178 :: u179 :: u180 :: u181 :: u182 :: u183 :: u184 :: u185 :: u186 :: u187 :: u188 :: u189 :: u190 :: u191 :: u192 :: u193 :: u194 :: u195 :: u196 :: u197 :: u198 :: u199 :: u200 :: u201 :: u202 :: u203 :: u204 :: u205 :: u206 :: u207 :: u208 :: u209 :: u210 :: u211 :: u212 :: u213 :: u214 :: u215 :: u216 :: u217 :: u218 :: u219 :: u220 :: u221 :: u222 :: u223 :: u224 :: u225 :: u226 :: u227 :: u228 :: u229 :: u230 :: u231 :: u232 :: u233 :: u234 :: u235 :: u236 :: u237 :: u238 :: u239 :: u240 :: u241 :: u242 :: u243 :: u244 :: u245 :: u246 :: u247 :: u248 :: u249 :: u250 :: u251 :: u252 :: u253 :: u254 :: u255 :: u256 :: u257 :: u258 :: u259 :: u260 :: u261 :: u262 :: u263 :: u264 :: u265 :: u266 :: u267 :: u268 :: u269 :: u270 :: u271 :: u272 :: u273 :: u274 :: u275 :: u276 :: u277 :: u278 :: u279 :: u280 :: u281 :: u282 :: u283 :: u284 :: u285 :: u286 :: u287 :: u288 :: u289 :: u290 :: u291 :: u292 :: u293 :: u294 :: u295 :: u296 :: u297 :: u298 :: u299 :: u300 :: u301 :: u302 :: u303 :: u304 :: u305 :: u306 :: u307 :: u308 :: u309 :: u310 :: []), []⟩ w := by
  conv => arg 2; whnf
  have HK := hid hK
  have HS := hid hS
  have HR := hid hR
  have HZ := hid hz
  have HZB := hid hzb
  clear hK hS hR hz hzb
  go_loopw [5] (EnRel w base z nx) (fun v _ => slN v)
  case atStart => exact ⟨Os, L, aI, cI, rfl, hL, hL8, HS.out, HR.out, HZ.out, Below.refl _ _⟩
  case round =>
    clear hL hL8 HS HR HZ
    obtain ⟨Ps, L, a, c, rfl, hL, hL8, hS, hR, hz, hB⟩ := hrel
    have HS := hid hS
    have HR := hid hR
    have HZ := hid hz
    have HB := hid hB
    have HL := hid hL
    have hcap := hR.cap_
    clear hS hR hz hB
    by_cases h0 : 0 < L
    · have hd : decide ((L : Int) > 0) = true := decide_eq_true (by omega)
      have hio : 0 < Ps.length := by omega
      have x0 := fun b o (e : a = some ⟨b, o, none⟩) => e
      obtain ⟨a2, hcut, ha2⟩ := slice_from 28 3 und28 size_el28 a L c 1 h0
      have hcut2 : ∀ W : World, (Instr.sliceAt 28 (.slice a L c) (some (.int .i64 1)) none none).run Try.prog W = .ok (.slice a2 (L - 1) (c - 1)) W := fun W => hcut W
      have HFR := hid (HR.out.from (f := 1) (by omega) ha2)
      obtain ⟨b, o, rfl, hc⟩ := HR.out.plain h0
      have y0 := hc 0 _ (ints_get _ 0 (by simpa using hio))
      rw [List.getElem_map, Nat.add_zero] at y0
      have hids := HS.out.ids _ (List.getElem_mem hio)
      have hnx := HS.out.nx1
      have HAT := hid (at_at HS.out.rise hio)
      have HWO := hid (without_at HS.out.rise hio)
      obtain ⟨ob, hob⟩ : ∃ ob, ob = Ps[0] := ⟨_, rfl⟩
      rw [← hob] at y0 hids HAT HWO
      obtain ⟨id, hidd⟩ : ∃ id, id = ob.id := ⟨_, rfl⟩
      rw [← hidd] at y0 hids HAT HWO
      have hi64 : i64ok id := ⟨by omega, by omega⟩
      clear hc x0 hcut hob hidd hL hio ha2
      go_wp2_with (first | (go_at_call 13; refine (st_destroy_ok z nx Ps id ob _ HS.out hi64 HAT.out).mono ?_; rintro e w4 ⟨rfl, S4, B4⟩; have HS4 := hid S4; have HB4 := hid B4; clear S4 B4))
      refine ⟨⟨Ps.drop 1, L - 1, a2, c - 1, rfl, by rw [List.length_drop, HL.out], by omega, ?_, ?_, fun k hk => HZ.out k (HFR.out.2 k hk), HB.out.trans ?_⟩, by simp [slN]; omega⟩
      · have := HS4.out
        rw [HWO.out] at this
        simpa using this
      · have h1 := HFR.out.1.but HB4.out (fun k hk => HZ.out k (HFR.out.2 k hk))
        simpa [ints, List.map_drop] using h1
      · exact ⟨HB4.out.os, HB4.out.tape, HB4.out.output, HB4.out.size, fun k hk => HB4.out.block k (Nat.lt_of_lt_of_le hk (Nat.le_trans hb HB.out.size)) (fun e => by have := HZB.out k e; omega)⟩
    · obtain rfl : L = 0 := by omega
      have HPN : Hid (Ps = []) := hid (List.eq_nil_of_length_eq_zero hL.symm)
      go_wp2
      refine HK.out _ _ _ ⟨?_, HB.out⟩ ..
      have := HS.out
      rw [HPN.out] at this
      exact this
end Go.Proofs.Ytejkbeeffllpfaa
