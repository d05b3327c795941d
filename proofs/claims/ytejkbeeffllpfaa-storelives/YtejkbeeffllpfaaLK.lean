import Derived.Test.YtejkbeeffllpfaaLB
namespace Go.Proofs.Ytejkbeeffllpfaa
open Go.RowKit
set_option linter.unusedVariables false
set_option linter.unusedSimpArgs false

/-- The places of what is made. -/
structure X24 where
  g1 : Nat
  g2 : Nat
  gm : Nat
  g3 : Nat
  bI : Option Addr
  dI : Nat
  bS : Option Addr
  dS : Nat
def P24 (f2 f3 f6 f7 f10 f11 : Bool) (w : World) (base : Nat) (col : Nat → Nat) (aI : Option Addr) (L cI : Nat) (LI : List Value) (aS : Option Addr) (cS : Nat) (LS : List Value) (aW : Option Addr) (cW : Nat) (LW : List Value) (id : Int) (q : Nat) (ZL : List Value) (x : X24) (u : World) : Prop :=
  ∃ col' xs, Rg w u base col col' (bif f3 then x.bI else aI) (bif f3 then L + 1 else L) (bif f3 then x.dI else cI) (bif f3 then LI ++ [.int .i64 id] else LI) (bif f7 then x.bS else aS) (bif f7 then L + 1 else L) (bif f7 then x.dS else cS) (bif f7 then LS ++ [.int .i64 (q : Int)] else LS) aW L cW LW xs ∧
    (f2 = true → (x.g1, 4, [.int .i64 id]) ∈ xs) ∧ (f6 = true → (x.g2, 4, [.int .i64 (q : Int)]) ∈ xs) ∧ (f10 = true → (x.gm, 10 + id.toNat, ZL) ∈ xs) ∧ (f11 = true → (x.g3, 4, [.slice (some ⟨x.gm, 0, none⟩) q q]) ∈ xs)
theorem P24.b1 {f6 f10 f11 : Bool} {w : World} {base : Nat} {col : Nat → Nat} {aI : Option Addr} {L cI : Nat} {LI : List Value} {aS : Option Addr} {cS : Nat} {LS : List Value} {aW : Option Addr} {cW : Nat} {LW : List Value} {id : Int} {q : Nat} {ZL : List Value} {x : X24} {u : World} (h : P24 false false f6 false f10 f11 w base col aI L cI LI aS cS LS aW cW LW id q ZL x u) : P24 true false f6 false f10 f11 w base col aI L cI LI aS cS LS aW cW LW id q ZL { x with g1 := u.heap.size } (u.alloc (.cells #[.int .i64 id] 3)) := by
  obtain ⟨col', xs, R, h2, h6, h10, h11⟩ := h
  exact ⟨_, _, R.alloc _ _ 4 (.inl rfl), fun _ => List.mem_cons_self, fun e => List.mem_cons_of_mem _ (h6 e), fun e => List.mem_cons_of_mem _ (h10 e), fun e => List.mem_cons_of_mem _ (h11 e)⟩
theorem P24.b2 {f2 f3 f10 f11 : Bool} {w : World} {base : Nat} {col : Nat → Nat} {aI : Option Addr} {L cI : Nat} {LI : List Value} {aS : Option Addr} {cS : Nat} {LS : List Value} {aW : Option Addr} {cW : Nat} {LW : List Value} {id : Int} {q : Nat} {ZL : List Value} {x : X24} {u : World} (h : P24 f2 f3 false false f10 f11 w base col aI L cI LI aS cS LS aW cW LW id q ZL x u) : P24 f2 f3 true false f10 f11 w base col aI L cI LI aS cS LS aW cW LW id q ZL { x with g2 := u.heap.size } (u.alloc (.cells #[.int .i64 (q : Int)] 3)) := by
  obtain ⟨col', xs, R, h2, h6, h10, h11⟩ := h
  exact ⟨_, _, R.alloc _ _ 4 (.inl rfl), fun e => List.mem_cons_of_mem _ (h2 e), fun _ => List.mem_cons_self, fun e => List.mem_cons_of_mem _ (h10 e), fun e => List.mem_cons_of_mem _ (h11 e)⟩
theorem P24.mk_ {f2 f3 f6 f7 : Bool} {w : World} {base : Nat} {col : Nat → Nat} {aI : Option Addr} {L cI : Nat} {LI : List Value} {aS : Option Addr} {cS : Nat} {LS : List Value} {aW : Option Addr} {cW : Nat} {LW : List Value} {id : Int} {q : Nat} {ZL : List Value} {x : X24} {u : World} (Z : Array Value) (hZ : Z.toList = ZL) (h : P24 f2 f3 f6 f7 false false w base col aI L cI LI aS cS LS aW cW LW id q ZL x u) : P24 f2 f3 f6 f7 true false w base col aI L cI LI aS cS LS aW cW LW id q ZL { x with gm := u.heap.size } (u.alloc (.cells Z 5)) := by
  obtain ⟨col', xs, R, h2, h6, h10, h11⟩ := h
  subst hZ
  exact ⟨_, _, R.alloc _ _ (10 + id.toNat) (.inr (by omega)), fun e => List.mem_cons_of_mem _ (h2 e), fun e => List.mem_cons_of_mem _ (h6 e), fun _ => List.mem_cons_self, fun e => by cases e⟩
theorem P24.b3 {f2 f3 f6 f7 : Bool} {w : World} {base : Nat} {col : Nat → Nat} {aI : Option Addr} {L cI : Nat} {LI : List Value} {aS : Option Addr} {cS : Nat} {LS : List Value} {aW : Option Addr} {cW : Nat} {LW : List Value} {id : Int} {q : Nat} {ZL : List Value} {x : X24} {u : World} (h : P24 f2 f3 f6 f7 true false w base col aI L cI LI aS cS LS aW cW LW id q ZL x u) : P24 f2 f3 f6 f7 true true w base col aI L cI LI aS cS LS aW cW LW id q ZL { x with g3 := u.heap.size } (u.alloc (.cells #[.slice (some ⟨x.gm, 0, none⟩) q q] 30)) := by
  obtain ⟨col', xs, R, h2, h6, h10, h11⟩ := h
  exact ⟨_, _, R.alloc _ _ 4 (.inl rfl), fun e => List.mem_cons_of_mem _ (h2 e), fun e => List.mem_cons_of_mem _ (h6 e), fun e => List.mem_cons_of_mem _ (h10 e), fun _ => List.mem_cons_self⟩
theorem P24.apI {f6 f10 f11 : Bool} {w : World} {base : Nat} {col : Nat → Nat} {aI : Option Addr} {L cI : Nat} {LI : List Value} {aS : Option Addr} {cS : Nat} {LS : List Value} {aW : Option Addr} {cW : Nat} {LW : List Value} {id : Int} {q : Nat} {ZL : List Value} {x : X24} {u : World} (h : P24 true false f6 false f10 f11 w base col aI L cI LI aS cS LS aW cW LW id q ZL x u) (hL : L ≤ 8) : ∃ bI dI u', (Builtin.append_ #[28, 28] 28 #[.slice aI L cI, .slice (some ⟨x.g1, 0, none⟩) 1 1]).run Try.prog u = .ok (.slice bI (L + 1) dI) u' ∧ P24 true true f6 false f10 f11 w base col aI L cI LI aS cS LS aW cW LW id q ZL { x with bI := bI, dI := dI } u' := by
  obtain ⟨col', xs, R, h2, h6, h10, h11⟩ := h
  obtain ⟨a', c', u', c2, hrun, R2⟩ := R.appI (h2 rfl) rfl (by simp only [cond_false]; omega)
  exact ⟨a', c', u', hrun, c2, xs, R2, h2, h6, h10, h11⟩
theorem P24.apS {f10 f11 : Bool} {w : World} {base : Nat} {col : Nat → Nat} {aI : Option Addr} {L cI : Nat} {LI : List Value} {aS : Option Addr} {cS : Nat} {LS : List Value} {aW : Option Addr} {cW : Nat} {LW : List Value} {id : Int} {q : Nat} {ZL : List Value} {x : X24} {u : World} (h : P24 true true true false f10 f11 w base col aI L cI LI aS cS LS aW cW LW id q ZL x u) (hL : L ≤ 8) : ∃ bS dS u', (Builtin.append_ #[28, 28] 28 #[.slice aS L cS, .slice (some ⟨x.g2, 0, none⟩) 1 1]).run Try.prog u = .ok (.slice bS (L + 1) dS) u' ∧ P24 true true true true f10 f11 w base col aI L cI LI aS cS LS aW cW LW id q ZL { x with bS := bS, dS := dS } u' := by
  obtain ⟨col', xs, R, h2, h6, h10, h11⟩ := h
  obtain ⟨a', c', u', c2, hrun, R2⟩ := R.appS (h6 rfl) rfl (by simp only [cond_false]; omega)
  exact ⟨a', c', u', hrun, c2, xs, R2, h2, h6, h10, h11⟩
theorem P24.apW {w : World} {base : Nat} {col : Nat → Nat} {aI : Option Addr} {L cI : Nat} {LI : List Value} {aS : Option Addr} {cS : Nat} {LS : List Value} {aW : Option Addr} {cW : Nat} {LW : List Value} {id : Int} {q : Nat} {ZL : List Value} {x : X24} {u : World} (h : P24 true true true true true true w base col aI L cI LI aS cS LS aW cW LW id q ZL x u) (hL : L ≤ 8) : ∃ bW dW u' col' xs, (Builtin.append_ #[29, 29] 29 #[.slice aW L cW, .slice (some ⟨x.g3, 0, none⟩) 1 1]).run Try.prog u = .ok (.slice bW (L + 1) dW) u' ∧ Rg w u' base col col' x.bI (L + 1) x.dI (LI ++ [.int .i64 id]) x.bS (L + 1) x.dS (LS ++ [.int .i64 (q : Int)]) bW (L + 1) dW (LW ++ [.slice (some ⟨x.gm, 0, none⟩) q q]) xs ∧ (x.gm, 10 + id.toNat, ZL) ∈ xs := by
  obtain ⟨col', xs, R, h2, h6, h10, h11⟩ := h
  obtain ⟨a', c', u', c2, hrun, R2⟩ := R.appW (h11 rfl) rfl (by omega)
  exact ⟨a', c', u', c2, xs, hrun, R2, h10 rfl⟩
set_option maxRecDepth 1000000 in
set_option maxHeartbeats 4000000 in
theorem lv_r24 {u0 u1 u2 u3 u4 u8 u9 u11 u12 u14 u15 u16 u17 u18 u19 u20 u21 u22 u23 u24 u25 u26 u27 u28 u29 u30 u31 u32 u33 u34 u35 u36 u37 u38 u39 u40 u41 u42 u43 u44 u45 u46 u47 u48 u49 u50 u51 u52 u53 u54 u55 u56 u57 u58 u59 u60 u61 u62 u63 u64 u65 u66 u67 u68 u69 u70 u71 u72 u73 u74 u75 u76 u77 u78 u79 u80 u81 u82 u83 u84 u85 u86 u87 u88 u89 u90 u91 u92 u93 u94 u95 u96 u97 u98 u99 u100 u101 u102 u103 u104 u105 u106 u107 u108 u109 u110 u111 u112 u113 u114 u115 u116 u117 u118 u119 u120 u121 u122 u123 u124 u125 u126 u127 u128 u129 u130 u131 u132 u133 u134 u135 u136 u137 u138 u139 u140 u141 u142 u143 u144 u145 u146 u147 u148 u149 u150 u151 u152 u153 u154 u155 u156 u157 u158 u159 u160 u161 u162 u163 u164 u165 u166 u167 u168 u169 u170 u171 u172 u173 u174 u175 u176 u177 u178 u179 u180 u181 u182 u183 u184 u185 u186 u187 u188 u189 u190 u191 u192 u193 u194 u195 u196 u197 u198 u199 u200 u201 u202 u203 u204 u205 u206 u207 u208 u209 u210 u211 u212 u213 u214 u215 u216 u217 u218 u219 u220 u221 u222 u223 u224 u225 u226 u227 u228 u229 u230 u231 u232 u233 u234 u235 u236 u237 u238 u239 u240 u241 u242 u243 u244 u245 u246 u247 u248 u249 u250 u251 u252 u253 u254 u255 u256 u257 u258 u259 u260 u261 u262 u263 u264 u265 u266 u267 u268 u269 u270 u271 u272 u273 u274 u275 u276 u277 u278 u279 u280 u281 u282 u283 u284 u285 u286 u287 u288 u289 u290 u291 u292 u293 u294 u295 u296 u297 u298 u299 u300 u301 u302 u303 u304 u305 u306 u307 u308 u309 u310 : Value} {Q : Exit → Act → World → Prop} (base : Nat) (col : Nat → Nat) (z : Sid) (nx : Int) (Ps Os : List Ob) (G : Int → Nat) (aI : Option Addr) (cI : Nat) (aS : Option Addr) (cS : Nat) (aW : Option Addr) (cW : Nat) (L q : Nat) (o : Ob) (id : Int) (w : World) (hV : Lv w base col z nx Ps Os G aI cI aS cS aW cW) (hL : L = Os.length) (hL8 : L ≤ 8) (hq : q ≤ 1023) (ho : o.id = id) (ho1 : 1 ≤ o.id) (hod : o.data = List.replicate q 0) (hri : ∀ p ∈ Os, 1 ≤ p.id ∧ p.id < o.id) (hP : ∀ c a d v w, Q (.panic c) (Act.put a d v) w → Q (.panic c) a w)
    (hK : ∀ (col' : Nat → Nat) (G' : Int → Nat) (aI' : Option Addr) (cI' : Nat) (aS' : Option Addr) (cS' : Nat) (aW' : Option Addr) (cW' : Nat) (w' : World), Lv w' base col' z nx Ps (Os ++ [o]) G' aI' cI' aS' cS' aW' cW' ∧ Below base w w' → ∀ (v115 v116 v117 v118 v119 v120 v121 v122 v123 v124 v125 v126 v127 : Value), Q .normal ⟨List.toArray (u0 :: u1 :: u2 :: u3 :: u4 :: .slice aI' (L + 1) cI' :: .slice aS' (L + 1) cS' :: .slice aW' (L + 1) cW' :: u8 :: u9 :: .int .i64 (q : Int) :: u11 :: u12 :: .int .i64 id :: u14 :: u15 :: u16 :: u17 :: u18 :: u19 :: u20 :: u21 :: u22 :: u23 :: u24 :: u25 :: u26 :: u27 :: u28 :: u29 :: u30 :: u31 :: u32 :: u33 :: u34 :: u35 :: u36 :: u37 :: u38 :: u39 :: u40 :: u41 :: u42 :: u43 :: u44 :: u45 :: u46 :: u47 :: u48 :: u49 :: u50 :: u51 :: u52 :: u53 :: u54 :: u55 :: u56 :: u57 :: u58 :: u59 :: u60 :: u61 :: u62 :: u63 :: u64 :: u65 :: u66 :: u67 :: u68 :: u69 :: u70 :: u71 :: u72 :: u73 :: u74 :: u75 :: u76 :: u77 :: u78 :: u79 :: u80 :: u81 :: u82 :: u83 :: u84 :: u85 :: u86 :: u87 :: u88 :: u89 :: u90 :: u91 :: u92 :: u93 :: u94 :: u95 :: u96 :: u97 :: u98 :: u99 :: u100 :: u101 :: u102 :: u103 :: u104 :: u105 :: u106 :: u107 :: u108 :: u109 :: u110 :: u111 :: u112 :: u113 :: u114 :: v115 :: v116 :: v117 :: v118 :: v119 :: v120 :: v121 :: v122 :: v123 :: v124 :: v125 :: v126 :: v127 :: u128 :: u129 :: u130 :: u131 :: u132 :: u133 :: u134 :: u135 :: u136 :: u137 :: u138 :: u139 :: u140 :: u141 :: u142 :: u143 :: u144 :: u145 :: u146 :: u147 :: u148 :: u149 :: u150 :: u151 :: u152 :: u153 :: u154 :: u155 :: u156 :: u157 :: u158 :: u159 :: u160 :: u161 :: u162 :: u163 :: u164 :: u165 :: u166 :: u167 :: u168 :: u169 :: u170 :: u171 :: u172 :: u173 :: u174 :: u175 :: u176 :: u177 :: u178 :: u179 :: u180 :: u181 :: u182 :: u183 :: u184 :: u185 :: u186 :: u187 :: u188 :: u189 :: u190 :: u191 :: u192 :: u193 :: u194 :: u195 :: u196 :: u197 :: u198 :: u199 :: u200 :: u201 :: u202 :: u203 :: u204 :: u205 :: u206 :: u207 :: u208 :: u209 :: u210 :: u211 :: u212 :: u213 :: u214 :: u215 :: u216 :: u217 :: u218 :: u219 :: u220 :: u221 :: u222 :: u223 :: u224 :: u225 :: u226 :: u227 :: u228 :: u229 :: u230 :: u231 :: u232 :: u233 :: u234 :: u235 :: u236 :: u237 :: u238 :: u239 :: u240 :: u241 :: u242 :: u243 :: u244 :: u245 :: u246 :: u247 :: u248 :: u249 :: u250 :: u251 :: u252 :: u253 :: u254 :: u255 :: u256 :: u257 :: u258 :: u259 :: u260 :: u261 :: u262 :: u263 :: u264 :: u265 :: u266 :: u267 :: u268 :: u269 :: u270 :: u271 :: u272 :: u273 :: u274 :: u275 :: u276 :: u277 :: u278 :: u279 :: u280 :: u281 :: u282 :: u283 :: u284 :: u285 :: u286 :: u287 :: u288 :: u289 :: u290 :: u291 :: u292 :: u293 :: u294 :: u295 :: u296 :: u297 :: u298 :: u299 :: u300 :: u301 :: u302 :: u303 :: u304 :: u305 :: u306 :: u307 :: u308 :: u309 :: u310 :: []), []⟩ w') :
    Code.wp Try.prog (pR (pR (pR (pI (pR (c3 Try.f3.body 5)))))) Q ⟨List.toArray (u0 :: u1 :: u2 :: u3 :: u4 :: .slice aI L cI :: .slice aS L cS :: .slice aW L cW :: u8 :: u9 :: .int .i64 (q : Int) :: u11 :: u12 :: .int .i64 id :: u14 :: u15 :: u16 :: u17 :: u18 :: u19 :: u20 :: u21 :: u22 :: u23 :: u24 :: u25 :: u26 :: u27 :: u28 :: u29 :: u30 :: u31 :: u32 :: u33 :: u34 :: u35 :: u36 :: u37 :: u38 :: u39 :: u40 :: u41 :: u42 :: u43 :: u44 :: u45 :: u46 :: u47 :: u48 :: u49 :: u50 :: u51 :: u52 :: u53 :: u54 :: u55 :: u56 :: u57 :: u58 :: u59 :: u60 :: u61 :: u62 :: u63 :: u64 :: u65 :: u66 :: u67 :: u68 :: u69 :: u70 :: u71 :: u72 :: u73 :: u74 :: u75 :: u76 :: u77 :: u78 :: u79 :: u80 :: u81 :: u82 :: u83 :: u84 :: u85 :: u86 :: u87 :: u88 :: u89 :: u90 :: u91 :: u92 :: u93 :: u94 :: u95 :: u96 :: u97 :: u98 :: u99 :: u100 :: u101 :: u102 :: u103 :: u104 :: u105 :: u106 :: u107 :: u108 :: u109 :: u110 :: u111 :: u112 :: u113 :: u114 :: u115 :: u116 :: u117 :: u118 :: u119 :: u120 :: u121 :: u122 :: u123 :: u124 :: u125 :: u126 :: u127 :: u128 :: u129 :: u130 :: u131 :: u132 :: u133 :: u134 :: u135 :: u136 :: u137 :: u138 :: u139 :: u140 :: u141 :: u142 :: u143 :: u144 :: u145 :: u146 :: u147 :: u148 :: u149 :: u150 :: u151 :: u152 :: u153 :: u154 :: u155 :: u156 :: u157 :: u158 :: u159 :: u160 :: u161 :: u162 :: u163 :: u164 :: u165 :: u166 :: u167 :: u168 :: u169 :: u170 :: u171 :: u172 :: u173 :: u174 :: u175 :: u176 :: u177 :: u178 :: u179 :: u180 :: u181 :: u182 :: u183 :: u184 :: u185 :: u186 :: u187 :: u188 :: u189 :: u190 :: u191 :: u192 :: u193 :: u194 :: u195 :: u196 :: u197 :: u198 :: u199 :: u200 :: u201 :: u202 :: u203 :: u204 :: u205 :: u206 :: u207 :: u208 :: u209 :: u210 :: u211 :: u212 :: u213 :: u214 :: u215 :: u216 :: u217 :: u218 :: u219 :: u220 :: u221 :: u222 :: u223 :: u224 :: u225 :: u226 :: u227 :: u228 :: u229 :: u230 :: u231 :: u232 :: u233 :: u234 :: u235 :: u236 :: u237 :: u238 :: u239 :: u240 :: u241 :: u242 :: u243 :: u244 :: u245 :: u246 :: u247 :: u248 :: u249 :: u250 :: u251 :: u252 :: u253 :: u254 :: u255 :: u256 :: u257 :: u258 :: u259 :: u260 :: u261 :: u262 :: u263 :: u264 :: u265 :: u266 :: u267 :: u268 :: u269 :: u270 :: u271 :: u272 :: u273 :: u274 :: u275 :: u276 :: u277 :: u278 :: u279 :: u280 :: u281 :: u282 :: u283 :: u284 :: u285 :: u286 :: u287 :: u288 :: u289 :: u290 :: u291 :: u292 :: u293 :: u294 :: u295 :: u296 :: u297 :: u298 :: u299 :: u300 :: u301 :: u302 :: u303 :: u304 :: u305 :: u306 :: u307 :: u308 :: u309 :: u310 :: []), []⟩ w := by
  conv => arg 2; whnf
  have HP := hid hP
  have hVd : Lv w.drew base col z nx Ps Os G aI cI aS cS aW cW := hV.later (Below.refl _ _).drew
  obtain ⟨Z, hZ, hmk⟩ := make_zeros q (by omega)
  have HZ : Hid (Z.toList = List.replicate q (.int .u8 0)) := hid (by rw [hZ]; simp [u8s])
  have HX0 : Hid (P24 false false false false false false w.drew base col aI L cI (ints (Os.map Ob.id)) aS cS (ints (Os.map fun o => (o.data.length : Int))) aW cW (Os.map (wv G)) id q (List.replicate q (.int .u8 0)) ⟨0, 0, 0, 0, none, 0, none, 0⟩ w.drew) := hid (by
    have R := hVd.rg
    rw [← hL] at R
    exact ⟨_, _, R, fun e => (by cases e), fun e => (by cases e), fun e => (by cases e), fun e => (by cases e)⟩)
  have HFIN : Hid (∀ (x : X24) (bW : Option Addr) (dW : Nat) (u' : World) (col' : Nat → Nat) (xs : List (Nat × Nat × List Value)), Rg w.drew u' base col col' x.bI (L + 1) x.dI (ints (Os.map Ob.id) ++ [.int .i64 id]) x.bS (L + 1) x.dS (ints (Os.map fun o => (o.data.length : Int)) ++ [.int .i64 (q : Int)]) bW (L + 1) dW (Os.map (wv G) ++ [.slice (some ⟨x.gm, 0, none⟩) q q]) xs → (x.gm, 10 + id.toNat, List.replicate q (.int .u8 0)) ∈ xs → ∀ (v115 v116 v117 v118 v119 v120 v121 v122 v123 v124 v125 v126 v127 : Value), Q .normal ⟨List.toArray (u0 :: u1 :: u2 :: u3 :: u4 :: .slice x.bI (L + 1) x.dI :: .slice x.bS (L + 1) x.dS :: .slice bW (L + 1) dW :: u8 :: u9 :: .int .i64 (q : Int) :: u11 :: u12 :: .int .i64 id :: u14 :: u15 :: u16 :: u17 :: u18 :: u19 :: u20 :: u21 :: u22 :: u23 :: u24 :: u25 :: u26 :: u27 :: u28 :: u29 :: u30 :: u31 :: u32 :: u33 :: u34 :: u35 :: u36 :: u37 :: u38 :: u39 :: u40 :: u41 :: u42 :: u43 :: u44 :: u45 :: u46 :: u47 :: u48 :: u49 :: u50 :: u51 :: u52 :: u53 :: u54 :: u55 :: u56 :: u57 :: u58 :: u59 :: u60 :: u61 :: u62 :: u63 :: u64 :: u65 :: u66 :: u67 :: u68 :: u69 :: u70 :: u71 :: u72 :: u73 :: u74 :: u75 :: u76 :: u77 :: u78 :: u79 :: u80 :: u81 :: u82 :: u83 :: u84 :: u85 :: u86 :: u87 :: u88 :: u89 :: u90 :: u91 :: u92 :: u93 :: u94 :: u95 :: u96 :: u97 :: u98 :: u99 :: u100 :: u101 :: u102 :: u103 :: u104 :: u105 :: u106 :: u107 :: u108 :: u109 :: u110 :: u111 :: u112 :: u113 :: u114 :: v115 :: v116 :: v117 :: v118 :: v119 :: v120 :: v121 :: v122 :: v123 :: v124 :: v125 :: v126 :: v127 :: u128 :: u129 :: u130 :: u131 :: u132 :: u133 :: u134 :: u135 :: u136 :: u137 :: u138 :: u139 :: u140 :: u141 :: u142 :: u143 :: u144 :: u145 :: u146 :: u147 :: u148 :: u149 :: u150 :: u151 :: u152 :: u153 :: u154 :: u155 :: u156 :: u157 :: u158 :: u159 :: u160 :: u161 :: u162 :: u163 :: u164 :: u165 :: u166 :: u167 :: u168 :: u169 :: u170 :: u171 :: u172 :: u173 :: u174 :: u175 :: u176 :: u177 :: u178 :: u179 :: u180 :: u181 :: u182 :: u183 :: u184 :: u185 :: u186 :: u187 :: u188 :: u189 :: u190 :: u191 :: u192 :: u193 :: u194 :: u195 :: u196 :: u197 :: u198 :: u199 :: u200 :: u201 :: u202 :: u203 :: u204 :: u205 :: u206 :: u207 :: u208 :: u209 :: u210 :: u211 :: u212 :: u213 :: u214 :: u215 :: u216 :: u217 :: u218 :: u219 :: u220 :: u221 :: u222 :: u223 :: u224 :: u225 :: u226 :: u227 :: u228 :: u229 :: u230 :: u231 :: u232 :: u233 :: u234 :: u235 :: u236 :: u237 :: u238 :: u239 :: u240 :: u241 :: u242 :: u243 :: u244 :: u245 :: u246 :: u247 :: u248 :: u249 :: u250 :: u251 :: u252 :: u253 :: u254 :: u255 :: u256 :: u257 :: u258 :: u259 :: u260 :: u261 :: u262 :: u263 :: u264 :: u265 :: u266 :: u267 :: u268 :: u269 :: u270 :: u271 :: u272 :: u273 :: u274 :: u275 :: u276 :: u277 :: u278 :: u279 :: u280 :: u281 :: u282 :: u283 :: u284 :: u285 :: u286 :: u287 :: u288 :: u289 :: u290 :: u291 :: u292 :: u293 :: u294 :: u295 :: u296 :: u297 :: u298 :: u299 :: u300 :: u301 :: u302 :: u303 :: u304 :: u305 :: u306 :: u307 :: u308 :: u309 :: u310 :: []), []⟩ u') := hid (by
    intro x bW dW u' col' xs R hm
    rw [hL] at R
    rw [← ho] at R hm
    have hV3 := hVd.grow (nx' := nx) ho1 hri hod hq R hm
    exact hK _ _ _ _ _ _ _ _ _ ⟨hV3, ((Below.refl base w).drew).trans (hVd.below R.but (fun j hj => by omega))⟩)
  clear hK hP hV hVd hZ ho ho1 hod hri hL
  refine wp_region_held_drew (S := fun _ => True) (by kernel_rfl) (trivial) (fun hHeld => ?_)
  refine wpAnyH_norm (l2 := #[false, false, false, false, false, false, false, false, false, false, false, false, false, false, false, false]) (f2 := 16) (by kernel_rfl) (by kernel_rfl) ?_
  refine wpAnyH_take (i := 0) (oi := _) (v := ?_) rfl (by kernel_rfl) (by kernel_rfl) (by kernel_rfl) (fun _ _ _ h => HP.out _ _ _ _ _ h) (Or.inl ⟨by rfl, ?_⟩) (by assumption) ?_
  rotate_left
  · (intro w hSw; (try dsimp only at hSw); go_simp; try with_reducible rfl)
  simp only [List.getElem_toArray, List.getElem_cons_succ, List.getElem_cons_zero, Act.put, List.setIfInBounds_toArray, List.set_cons_zero, List.set_cons_succ]
  refine wpAnyH_norm (l2 := #[true, false, false, false, false, false, false, false, false, false, false, false, false, false, false, false]) (f2 := 15) (by kernel_rfl) (by kernel_rfl) ?_
  refine wpAnyH_take (i := 1) (oi := _) (v := ?_) rfl (by kernel_rfl) (by kernel_rfl) (by kernel_rfl) (fun _ _ _ h => HP.out _ _ _ _ _ h) (Or.inl ⟨by rfl, ?_⟩) (by assumption) ?_
  rotate_left
  · (intro w hSw; (try dsimp only at hSw); go_simp; try with_reducible rfl)
  simp only [List.getElem_toArray, List.getElem_cons_succ, List.getElem_cons_zero, Act.put, List.setIfInBounds_toArray, List.set_cons_zero, List.set_cons_succ]
  refine wpAnyH_norm (l2 := #[true, true, false, false, false, false, false, false, false, false, false, false, false, false, false, false]) (f2 := 14) (by kernel_rfl) (by kernel_rfl) ?_
  refine wpAnyH_take (i := 4) (oi := _) (v := ?_) rfl (by kernel_rfl) (by kernel_rfl) (by kernel_rfl) (fun _ _ _ h => HP.out _ _ _ _ _ h) (Or.inl ⟨by rfl, ?_⟩) (by assumption) ?_
  rotate_left
  · (intro w hSw; (try dsimp only at hSw); go_simp; try with_reducible rfl)
  simp only [List.getElem_toArray, List.getElem_cons_succ, List.getElem_cons_zero, Act.put, List.setIfInBounds_toArray, List.set_cons_zero, List.set_cons_succ]
  refine wpAnyH_norm (l2 := #[true, true, false, false, true, false, false, false, false, false, false, false, false, false, false, false]) (f2 := 13) (by kernel_rfl) (by kernel_rfl) ?_
  refine wpAnyH_take (i := 5) (oi := _) (v := ?_) rfl (by kernel_rfl) (by kernel_rfl) (by kernel_rfl) (fun _ _ _ h => HP.out _ _ _ _ _ h) (Or.inl ⟨by rfl, ?_⟩) (by assumption) ?_
  rotate_left
  · (intro w hSw; (try dsimp only at hSw); go_simp; try with_reducible rfl)
  simp only [List.getElem_toArray, List.getElem_cons_succ, List.getElem_cons_zero, Act.put, List.setIfInBounds_toArray, List.set_cons_zero, List.set_cons_succ]
  refine wpAnyH_norm (l2 := #[true, true, false, false, true, true, false, false, false, false, false, false, false, false, false, false]) (f2 := 12) (by kernel_rfl) (by kernel_rfl) ?_
  refine wpAnyH_take (i := 8) (oi := _) (v := ?_) rfl (by kernel_rfl) (by kernel_rfl) (by kernel_rfl) (fun _ _ _ h => HP.out _ _ _ _ _ h) (Or.inl ⟨by rfl, ?_⟩) (by assumption) ?_
  rotate_left
  · (intro w hSw; (try dsimp only at hSw); go_simp; try with_reducible rfl)
  simp only [List.getElem_toArray, List.getElem_cons_succ, List.getElem_cons_zero, Act.put, List.setIfInBounds_toArray, List.set_cons_zero, List.set_cons_succ]
  refine wpAnyH_norm (l2 := #[true, true, false, false, true, true, false, false, true, false, false, false, false, false, false, false]) (f2 := 11) (by kernel_rfl) (by kernel_rfl) ?_
  refine wpAnyH_take (i := 9) (oi := _) (v := ?_) rfl (by kernel_rfl) (by kernel_rfl) (by kernel_rfl) (fun _ _ _ h => HP.out _ _ _ _ _ h) (Or.inl ⟨by rfl, ?_⟩) (by assumption) ?_
  rotate_left
  · (intro w hSw; (try dsimp only at hSw); go_simp; try with_reducible rfl)
  simp only [List.getElem_toArray, List.getElem_cons_succ, List.getElem_cons_zero, Act.put, List.setIfInBounds_toArray, List.set_cons_zero, List.set_cons_succ]
  refine share X24 4 #[true, true, true, true, true, true, true, true, true, true, true, true, false, false, false, false] (fun fr x => ((((((fr).put (some 117) (.slice (some ⟨x.g1, 0, none⟩) 1 1)).put (some 118) (.slice x.bI (L + 1) x.dI)).put (some 121) (.slice (some ⟨x.g2, 0, none⟩) 1 1)).put (some 122) (.slice x.bS (L + 1) x.dS)).put (some 125) (.slice (some ⟨x.gm, 0, none⟩) q q)).put (some 126) (.slice (some ⟨x.g3, 0, none⟩) 1 1)) (P24 true true true true true true w.drew base col aI L cI (ints (Os.map Ob.id)) aS cS (ints (Os.map fun o => (o.data.length : Int))) aW cW (Os.map (wv G)) id q (List.replicate q (.int .u8 0))) ?_ (fun KEY_2_3_6_7_10_11 => ?_)
  · intro x u hx
    have hHeld : True := trivial
    simp only [List.getElem_toArray, List.getElem_cons_succ, List.getElem_cons_zero, Act.put, List.setIfInBounds_toArray, List.set_cons_zero, List.set_cons_succ]
    refine wpAnyH_norm (l2 := #[true, true, true, true, true, true, true, true, true, true, true, true, false, false, false, false]) (f2 := 4) (by kernel_rfl) (by kernel_rfl) ?_
    refine wpAnyH_ready (rs := [12]) (by kernel_rfl) (by simp) ?_
    refine AllReadyH.cons rfl (fun K hK => ?_) AllReadyH.nil
    · obtain ⟨bW, dW, u', col', xs, run, R, hm⟩ := hx.apW hL8
      have RUN := hid run
      clear run
      rw [if_pos (by kernel_rfl)]
      refine wp_append_known (.tmp 123) (.tmp 126) 29 rfl _ _ rfl rfl _ u' RUN.out ?_
      refine hK.out _ _ trivial (fun hHeld => ?_)
      clear hK K
      simp only [List.getElem_toArray, List.getElem_cons_succ, List.getElem_cons_zero, Act.put, List.setIfInBounds_toArray, List.set_cons_zero, List.set_cons_succ]
      refine wpAnyH_norm (l2 := #[true, true, true, true, true, true, true, true, true, true, true, true, true, false, false, false]) (f2 := 3) (by kernel_rfl) (by kernel_rfl) ?_
      refine wpAnyH_take (i := 13) (oi := _) (v := ?_) rfl (by kernel_rfl) (by kernel_rfl) (by kernel_rfl) (fun _ _ _ h => HP.out _ _ _ _ _ h) (Or.inl ⟨by rfl, ?_⟩) (by assumption) ?_
      rotate_left
      · (intro w hSw; (try dsimp only at hSw); go_simp; try with_reducible rfl)
      simp only [List.getElem_toArray, List.getElem_cons_succ, List.getElem_cons_zero, Act.put, List.setIfInBounds_toArray, List.set_cons_zero, List.set_cons_succ]
      refine wpAnyH_norm (l2 := #[true, true, true, true, true, true, true, true, true, true, true, true, true, true, false, false]) (f2 := 2) (by kernel_rfl) (by kernel_rfl) ?_
      refine wpAnyH_take (i := 14) (oi := _) (v := ?_) rfl (by kernel_rfl) (by kernel_rfl) (by kernel_rfl) (fun _ _ _ h => HP.out _ _ _ _ _ h) (Or.inl ⟨by rfl, ?_⟩) (by assumption) ?_
      rotate_left
      · (intro w hSw; (try dsimp only at hSw); go_simp; try with_reducible rfl)
      simp only [List.getElem_toArray, List.getElem_cons_succ, List.getElem_cons_zero, Act.put, List.setIfInBounds_toArray, List.set_cons_zero, List.set_cons_succ]
      refine wpAnyH_norm (l2 := #[true, true, true, true, true, true, true, true, true, true, true, true, true, true, true, false]) (f2 := 1) (by kernel_rfl) (by kernel_rfl) ?_
      refine wpAnyH_take (i := 15) (oi := _) (v := ?_) rfl (by kernel_rfl) (by kernel_rfl) (by kernel_rfl) (fun _ _ _ h => HP.out _ _ _ _ _ h) (Or.inl ⟨by rfl, ?_⟩) (by assumption) ?_
      rotate_left
      · (intro w hSw; (try dsimp only at hSw); go_simp; try with_reducible rfl)
      simp only [List.getElem_toArray, List.getElem_cons_succ, List.getElem_cons_zero, Act.put, List.setIfInBounds_toArray, List.set_cons_zero, List.set_cons_succ]
      refine wpAnyH_norm (l2 := #[true, true, true, true, true, true, true, true, true, true, true, true, true, true, true, true]) (f2 := 0) (by kernel_rfl) (by kernel_rfl) ?_
      refine wpAnyH_done (by kernel_rfl) ?_ _
      exact HFIN.out x _ _ _ _ _ R hm ..
  simp only [List.getElem_toArray, List.getElem_cons_succ, List.getElem_cons_zero, Act.put, List.setIfInBounds_toArray, List.set_cons_zero, List.set_cons_succ] at KEY_2_3_6_7_10_11
  refine share X24 5 #[true, true, true, true, true, true, true, true, true, true, true, false, false, false, false, false] (fun fr x => (((((fr).put (some 117) (.slice (some ⟨x.g1, 0, none⟩) 1 1)).put (some 118) (.slice x.bI (L + 1) x.dI)).put (some 121) (.slice (some ⟨x.g2, 0, none⟩) 1 1)).put (some 122) (.slice x.bS (L + 1) x.dS)).put (some 125) (.slice (some ⟨x.gm, 0, none⟩) q q)) (P24 true true true true true false w.drew base col aI L cI (ints (Os.map Ob.id)) aS cS (ints (Os.map fun o => (o.data.length : Int))) aW cW (Os.map (wv G)) id q (List.replicate q (.int .u8 0))) ?_ (fun KEY_2_3_6_7_10 => ?_)
  · intro x u hx
    have hHeld : True := trivial
    simp only [List.getElem_toArray, List.getElem_cons_succ, List.getElem_cons_zero, Act.put, List.setIfInBounds_toArray, List.set_cons_zero, List.set_cons_succ]
    refine wpAnyH_norm (l2 := #[true, true, true, true, true, true, true, true, true, true, true, false, false, false, false, false]) (f2 := 5) (by kernel_rfl) (by kernel_rfl) ?_
    refine wpAnyH_ready (rs := [11]) (by kernel_rfl) (by simp) ?_
    refine AllReadyH.cons rfl (fun K hK => ?_) AllReadyH.nil
    · go_simp
      refine hK.out _ _ trivial (fun hHeld => ?_)
      clear hK K
      simp only [List.getElem_toArray, List.getElem_cons_succ, List.getElem_cons_zero, Act.put, List.setIfInBounds_toArray, List.set_cons_zero, List.set_cons_succ]
      refine wpAnyH_norm (l2 := #[true, true, true, true, true, true, true, true, true, true, true, true, false, false, false, false]) (f2 := 4) (by kernel_rfl) (by kernel_rfl) ?_
      exact KEY_2_3_6_7_10_11.out ({ x with g3 := u.heap.size }) _ (hx.b3)
  simp only [List.getElem_toArray, List.getElem_cons_succ, List.getElem_cons_zero, Act.put, List.setIfInBounds_toArray, List.set_cons_zero, List.set_cons_succ] at KEY_2_3_6_7_10
  refine share X24 5 #[true, true, true, true, true, true, true, false, true, true, true, true, false, false, false, false] (fun fr x => (((((fr).put (some 117) (.slice (some ⟨x.g1, 0, none⟩) 1 1)).put (some 118) (.slice x.bI (L + 1) x.dI)).put (some 121) (.slice (some ⟨x.g2, 0, none⟩) 1 1)).put (some 125) (.slice (some ⟨x.gm, 0, none⟩) q q)).put (some 126) (.slice (some ⟨x.g3, 0, none⟩) 1 1)) (P24 true true true false true true w.drew base col aI L cI (ints (Os.map Ob.id)) aS cS (ints (Os.map fun o => (o.data.length : Int))) aW cW (Os.map (wv G)) id q (List.replicate q (.int .u8 0))) ?_ (fun KEY_2_3_6_10_11 => ?_)
  · intro x u hx
    have hHeld : True := trivial
    simp only [List.getElem_toArray, List.getElem_cons_succ, List.getElem_cons_zero, Act.put, List.setIfInBounds_toArray, List.set_cons_zero, List.set_cons_succ]
    refine wpAnyH_norm (l2 := #[true, true, true, true, true, true, true, false, true, true, true, true, false, false, false, false]) (f2 := 5) (by kernel_rfl) (by kernel_rfl) ?_
    refine wpAnyH_ready (rs := [7]) (by kernel_rfl) (by simp) ?_
    refine AllReadyH.cons rfl (fun K hK => ?_) AllReadyH.nil
    · obtain ⟨bS, dS, u', run, hx'⟩ := hx.apS hL8
      have RUN := hid run
      clear run
      rw [if_pos (by kernel_rfl)]
      refine wp_append_known (.tmp 119) (.tmp 121) 28 rfl _ _ rfl rfl _ u' RUN.out ?_
      refine hK.out _ _ trivial (fun hHeld => ?_)
      clear hK K
      simp only [List.getElem_toArray, List.getElem_cons_succ, List.getElem_cons_zero, Act.put, List.setIfInBounds_toArray, List.set_cons_zero, List.set_cons_succ]
      refine wpAnyH_norm (l2 := #[true, true, true, true, true, true, true, true, true, true, true, true, false, false, false, false]) (f2 := 4) (by kernel_rfl) (by kernel_rfl) ?_
      exact KEY_2_3_6_7_10_11.out ({ x with bS := bS, dS := dS }) _ (hx')
  simp only [List.getElem_toArray, List.getElem_cons_succ, List.getElem_cons_zero, Act.put, List.setIfInBounds_toArray, List.set_cons_zero, List.set_cons_succ] at KEY_2_3_6_10_11
  refine share X24 6 #[true, true, true, true, true, true, true, true, true, true, false, false, false, false, false, false] (fun fr x => ((((fr).put (some 117) (.slice (some ⟨x.g1, 0, none⟩) 1 1)).put (some 118) (.slice x.bI (L + 1) x.dI)).put (some 121) (.slice (some ⟨x.g2, 0, none⟩) 1 1)).put (some 122) (.slice x.bS (L + 1) x.dS)) (P24 true true true true false false w.drew base col aI L cI (ints (Os.map Ob.id)) aS cS (ints (Os.map fun o => (o.data.length : Int))) aW cW (Os.map (wv G)) id q (List.replicate q (.int .u8 0))) ?_ (fun KEY_2_3_6_7 => ?_)
  · intro x u hx
    have hHeld : True := trivial
    simp only [List.getElem_toArray, List.getElem_cons_succ, List.getElem_cons_zero, Act.put, List.setIfInBounds_toArray, List.set_cons_zero, List.set_cons_succ]
    refine wpAnyH_norm (l2 := #[true, true, true, true, true, true, true, true, true, true, false, false, false, false, false, false]) (f2 := 6) (by kernel_rfl) (by kernel_rfl) ?_
    refine wpAnyH_ready (rs := [10]) (by kernel_rfl) (by simp) ?_
    refine AllReadyH.cons rfl (fun K hK => ?_) AllReadyH.nil
    · go_simp
      refine hK.out _ _ trivial (fun hHeld => ?_)
      clear hK K
      simp only [List.getElem_toArray, List.getElem_cons_succ, List.getElem_cons_zero, Act.put, List.setIfInBounds_toArray, List.set_cons_zero, List.set_cons_succ]
      refine wpAnyH_norm (l2 := #[true, true, true, true, true, true, true, true, true, true, true, false, false, false, false, false]) (f2 := 5) (by kernel_rfl) (by kernel_rfl) ?_
      exact KEY_2_3_6_7_10.out ({ x with gm := u.heap.size }) _ (hx.mk_ Z HZ.out)
  simp only [List.getElem_toArray, List.getElem_cons_succ, List.getElem_cons_zero, Act.put, List.setIfInBounds_toArray, List.set_cons_zero, List.set_cons_succ] at KEY_2_3_6_7
  refine share X24 6 #[true, true, true, true, true, true, true, false, true, true, true, false, false, false, false, false] (fun fr x => ((((fr).put (some 117) (.slice (some ⟨x.g1, 0, none⟩) 1 1)).put (some 118) (.slice x.bI (L + 1) x.dI)).put (some 121) (.slice (some ⟨x.g2, 0, none⟩) 1 1)).put (some 125) (.slice (some ⟨x.gm, 0, none⟩) q q)) (P24 true true true false true false w.drew base col aI L cI (ints (Os.map Ob.id)) aS cS (ints (Os.map fun o => (o.data.length : Int))) aW cW (Os.map (wv G)) id q (List.replicate q (.int .u8 0))) ?_ (fun KEY_2_3_6_10 => ?_)
  · intro x u hx
    have hHeld : True := trivial
    simp only [List.getElem_toArray, List.getElem_cons_succ, List.getElem_cons_zero, Act.put, List.setIfInBounds_toArray, List.set_cons_zero, List.set_cons_succ]
    refine wpAnyH_norm (l2 := #[true, true, true, true, true, true, true, false, true, true, true, false, false, false, false, false]) (f2 := 6) (by kernel_rfl) (by kernel_rfl) ?_
    refine wpAnyH_ready (rs := [7, 11]) (by kernel_rfl) (by simp) ?_
    refine AllReadyH.cons rfl (fun K hK => ?_) (AllReadyH.cons rfl (fun K hK => ?_) AllReadyH.nil)
    · obtain ⟨bS, dS, u', run, hx'⟩ := hx.apS hL8
      have RUN := hid run
      clear run
      rw [if_pos (by kernel_rfl)]
      refine wp_append_known (.tmp 119) (.tmp 121) 28 rfl _ _ rfl rfl _ u' RUN.out ?_
      refine hK.out _ _ trivial (fun hHeld => ?_)
      clear hK K
      simp only [List.getElem_toArray, List.getElem_cons_succ, List.getElem_cons_zero, Act.put, List.setIfInBounds_toArray, List.set_cons_zero, List.set_cons_succ]
      refine wpAnyH_norm (l2 := #[true, true, true, true, true, true, true, true, true, true, true, false, false, false, false, false]) (f2 := 5) (by kernel_rfl) (by kernel_rfl) ?_
      exact KEY_2_3_6_7_10.out ({ x with bS := bS, dS := dS }) _ (hx')
    · go_simp
      refine hK.out _ _ trivial (fun hHeld => ?_)
      clear hK K
      simp only [List.getElem_toArray, List.getElem_cons_succ, List.getElem_cons_zero, Act.put, List.setIfInBounds_toArray, List.set_cons_zero, List.set_cons_succ]
      refine wpAnyH_norm (l2 := #[true, true, true, true, true, true, true, false, true, true, true, true, false, false, false, false]) (f2 := 5) (by kernel_rfl) (by kernel_rfl) ?_
      exact KEY_2_3_6_10_11.out ({ x with g3 := u.heap.size }) _ (hx.b3)
  simp only [List.getElem_toArray, List.getElem_cons_succ, List.getElem_cons_zero, Act.put, List.setIfInBounds_toArray, List.set_cons_zero, List.set_cons_succ] at KEY_2_3_6_10
  refine share X24 6 #[true, true, true, true, true, true, false, false, true, true, true, true, false, false, false, false] (fun fr x => ((((fr).put (some 117) (.slice (some ⟨x.g1, 0, none⟩) 1 1)).put (some 118) (.slice x.bI (L + 1) x.dI)).put (some 125) (.slice (some ⟨x.gm, 0, none⟩) q q)).put (some 126) (.slice (some ⟨x.g3, 0, none⟩) 1 1)) (P24 true true false false true true w.drew base col aI L cI (ints (Os.map Ob.id)) aS cS (ints (Os.map fun o => (o.data.length : Int))) aW cW (Os.map (wv G)) id q (List.replicate q (.int .u8 0))) ?_ (fun KEY_2_3_10_11 => ?_)
  · intro x u hx
    have hHeld : True := trivial
    simp only [List.getElem_toArray, List.getElem_cons_succ, List.getElem_cons_zero, Act.put, List.setIfInBounds_toArray, List.set_cons_zero, List.set_cons_succ]
    refine wpAnyH_norm (l2 := #[true, true, true, true, true, true, false, false, true, true, true, true, false, false, false, false]) (f2 := 6) (by kernel_rfl) (by kernel_rfl) ?_
    refine wpAnyH_ready (rs := [6]) (by kernel_rfl) (by simp) ?_
    refine AllReadyH.cons rfl (fun K hK => ?_) AllReadyH.nil
    · go_simp
      refine hK.out _ _ trivial (fun hHeld => ?_)
      clear hK K
      simp only [List.getElem_toArray, List.getElem_cons_succ, List.getElem_cons_zero, Act.put, List.setIfInBounds_toArray, List.set_cons_zero, List.set_cons_succ]
      refine wpAnyH_norm (l2 := #[true, true, true, true, true, true, true, false, true, true, true, true, false, false, false, false]) (f2 := 5) (by kernel_rfl) (by kernel_rfl) ?_
      exact KEY_2_3_6_10_11.out ({ x with g2 := u.heap.size }) _ (hx.b2)
  simp only [List.getElem_toArray, List.getElem_cons_succ, List.getElem_cons_zero, Act.put, List.setIfInBounds_toArray, List.set_cons_zero, List.set_cons_succ] at KEY_2_3_10_11
  refine share X24 6 #[true, true, true, false, true, true, true, false, true, true, true, true, false, false, false, false] (fun fr x => ((((fr).put (some 117) (.slice (some ⟨x.g1, 0, none⟩) 1 1)).put (some 121) (.slice (some ⟨x.g2, 0, none⟩) 1 1)).put (some 125) (.slice (some ⟨x.gm, 0, none⟩) q q)).put (some 126) (.slice (some ⟨x.g3, 0, none⟩) 1 1)) (P24 true false true false true true w.drew base col aI L cI (ints (Os.map Ob.id)) aS cS (ints (Os.map fun o => (o.data.length : Int))) aW cW (Os.map (wv G)) id q (List.replicate q (.int .u8 0))) ?_ (fun KEY_2_6_10_11 => ?_)
  · intro x u hx
    have hHeld : True := trivial
    simp only [List.getElem_toArray, List.getElem_cons_succ, List.getElem_cons_zero, Act.put, List.setIfInBounds_toArray, List.set_cons_zero, List.set_cons_succ]
    refine wpAnyH_norm (l2 := #[true, true, true, false, true, true, true, false, true, true, true, true, false, false, false, false]) (f2 := 6) (by kernel_rfl) (by kernel_rfl) ?_
    refine wpAnyH_ready (rs := [3]) (by kernel_rfl) (by simp) ?_
    refine AllReadyH.cons rfl (fun K hK => ?_) AllReadyH.nil
    · obtain ⟨bI, dI, u', run, hx'⟩ := hx.apI hL8
      have RUN := hid run
      clear run
      rw [if_pos (by kernel_rfl)]
      refine wp_append_known (.tmp 115) (.tmp 117) 28 rfl _ _ rfl rfl _ u' RUN.out ?_
      refine hK.out _ _ trivial (fun hHeld => ?_)
      clear hK K
      simp only [List.getElem_toArray, List.getElem_cons_succ, List.getElem_cons_zero, Act.put, List.setIfInBounds_toArray, List.set_cons_zero, List.set_cons_succ]
      refine wpAnyH_norm (l2 := #[true, true, true, true, true, true, true, false, true, true, true, true, false, false, false, false]) (f2 := 5) (by kernel_rfl) (by kernel_rfl) ?_
      exact KEY_2_3_6_10_11.out ({ x with bI := bI, dI := dI }) _ (hx')
  simp only [List.getElem_toArray, List.getElem_cons_succ, List.getElem_cons_zero, Act.put, List.setIfInBounds_toArray, List.set_cons_zero, List.set_cons_succ] at KEY_2_6_10_11
  refine share X24 7 #[true, true, true, true, true, true, true, false, true, true, false, false, false, false, false, false] (fun fr x => (((fr).put (some 117) (.slice (some ⟨x.g1, 0, none⟩) 1 1)).put (some 118) (.slice x.bI (L + 1) x.dI)).put (some 121) (.slice (some ⟨x.g2, 0, none⟩) 1 1)) (P24 true true true false false false w.drew base col aI L cI (ints (Os.map Ob.id)) aS cS (ints (Os.map fun o => (o.data.length : Int))) aW cW (Os.map (wv G)) id q (List.replicate q (.int .u8 0))) ?_ (fun KEY_2_3_6 => ?_)
  · intro x u hx
    have hHeld : True := trivial
    simp only [List.getElem_toArray, List.getElem_cons_succ, List.getElem_cons_zero, Act.put, List.setIfInBounds_toArray, List.set_cons_zero, List.set_cons_succ]
    refine wpAnyH_norm (l2 := #[true, true, true, true, true, true, true, false, true, true, false, false, false, false, false, false]) (f2 := 7) (by kernel_rfl) (by kernel_rfl) ?_
    refine wpAnyH_ready (rs := [7, 10]) (by kernel_rfl) (by simp) ?_
    refine AllReadyH.cons rfl (fun K hK => ?_) (AllReadyH.cons rfl (fun K hK => ?_) AllReadyH.nil)
    · obtain ⟨bS, dS, u', run, hx'⟩ := hx.apS hL8
      have RUN := hid run
      clear run
      rw [if_pos (by kernel_rfl)]
      refine wp_append_known (.tmp 119) (.tmp 121) 28 rfl _ _ rfl rfl _ u' RUN.out ?_
      refine hK.out _ _ trivial (fun hHeld => ?_)
      clear hK K
      simp only [List.getElem_toArray, List.getElem_cons_succ, List.getElem_cons_zero, Act.put, List.setIfInBounds_toArray, List.set_cons_zero, List.set_cons_succ]
      refine wpAnyH_norm (l2 := #[true, true, true, true, true, true, true, true, true, true, false, false, false, false, false, false]) (f2 := 6) (by kernel_rfl) (by kernel_rfl) ?_
      exact KEY_2_3_6_7.out ({ x with bS := bS, dS := dS }) _ (hx')
    · go_simp
      refine hK.out _ _ trivial (fun hHeld => ?_)
      clear hK K
      simp only [List.getElem_toArray, List.getElem_cons_succ, List.getElem_cons_zero, Act.put, List.setIfInBounds_toArray, List.set_cons_zero, List.set_cons_succ]
      refine wpAnyH_norm (l2 := #[true, true, true, true, true, true, true, false, true, true, true, false, false, false, false, false]) (f2 := 6) (by kernel_rfl) (by kernel_rfl) ?_
      exact KEY_2_3_6_10.out ({ x with gm := u.heap.size }) _ (hx.mk_ Z HZ.out)
  simp only [List.getElem_toArray, List.getElem_cons_succ, List.getElem_cons_zero, Act.put, List.setIfInBounds_toArray, List.set_cons_zero, List.set_cons_succ] at KEY_2_3_6
  refine share X24 7 #[true, true, true, true, true, true, false, false, true, true, true, false, false, false, false, false] (fun fr x => (((fr).put (some 117) (.slice (some ⟨x.g1, 0, none⟩) 1 1)).put (some 118) (.slice x.bI (L + 1) x.dI)).put (some 125) (.slice (some ⟨x.gm, 0, none⟩) q q)) (P24 true true false false true false w.drew base col aI L cI (ints (Os.map Ob.id)) aS cS (ints (Os.map fun o => (o.data.length : Int))) aW cW (Os.map (wv G)) id q (List.replicate q (.int .u8 0))) ?_ (fun KEY_2_3_10 => ?_)
  · intro x u hx
    have hHeld : True := trivial
    simp only [List.getElem_toArray, List.getElem_cons_succ, List.getElem_cons_zero, Act.put, List.setIfInBounds_toArray, List.set_cons_zero, List.set_cons_succ]
    refine wpAnyH_norm (l2 := #[true, true, true, true, true, true, false, false, true, true, true, false, false, false, false, false]) (f2 := 7) (by kernel_rfl) (by kernel_rfl) ?_
    refine wpAnyH_ready (rs := [6, 11]) (by kernel_rfl) (by simp) ?_
    refine AllReadyH.cons rfl (fun K hK => ?_) (AllReadyH.cons rfl (fun K hK => ?_) AllReadyH.nil)
    · go_simp
      refine hK.out _ _ trivial (fun hHeld => ?_)
      clear hK K
      simp only [List.getElem_toArray, List.getElem_cons_succ, List.getElem_cons_zero, Act.put, List.setIfInBounds_toArray, List.set_cons_zero, List.set_cons_succ]
      refine wpAnyH_norm (l2 := #[true, true, true, true, true, true, true, false, true, true, true, false, false, false, false, false]) (f2 := 6) (by kernel_rfl) (by kernel_rfl) ?_
      exact KEY_2_3_6_10.out ({ x with g2 := u.heap.size }) _ (hx.b2)
    · go_simp
      refine hK.out _ _ trivial (fun hHeld => ?_)
      clear hK K
      simp only [List.getElem_toArray, List.getElem_cons_succ, List.getElem_cons_zero, Act.put, List.setIfInBounds_toArray, List.set_cons_zero, List.set_cons_succ]
      refine wpAnyH_norm (l2 := #[true, true, true, true, true, true, false, false, true, true, true, true, false, false, false, false]) (f2 := 6) (by kernel_rfl) (by kernel_rfl) ?_
      exact KEY_2_3_10_11.out ({ x with g3 := u.heap.size }) _ (hx.b3)
  simp only [List.getElem_toArray, List.getElem_cons_succ, List.getElem_cons_zero, Act.put, List.setIfInBounds_toArray, List.set_cons_zero, List.set_cons_succ] at KEY_2_3_10
  refine share X24 7 #[true, true, true, false, true, true, true, false, true, true, true, false, false, false, false, false] (fun fr x => (((fr).put (some 117) (.slice (some ⟨x.g1, 0, none⟩) 1 1)).put (some 121) (.slice (some ⟨x.g2, 0, none⟩) 1 1)).put (some 125) (.slice (some ⟨x.gm, 0, none⟩) q q)) (P24 true false true false true false w.drew base col aI L cI (ints (Os.map Ob.id)) aS cS (ints (Os.map fun o => (o.data.length : Int))) aW cW (Os.map (wv G)) id q (List.replicate q (.int .u8 0))) ?_ (fun KEY_2_6_10 => ?_)
  · intro x u hx
    have hHeld : True := trivial
    simp only [List.getElem_toArray, List.getElem_cons_succ, List.getElem_cons_zero, Act.put, List.setIfInBounds_toArray, List.set_cons_zero, List.set_cons_succ]
    refine wpAnyH_norm (l2 := #[true, true, true, false, true, true, true, false, true, true, true, false, false, false, false, false]) (f2 := 7) (by kernel_rfl) (by kernel_rfl) ?_
    refine wpAnyH_ready (rs := [3, 11]) (by kernel_rfl) (by simp) ?_
    refine AllReadyH.cons rfl (fun K hK => ?_) (AllReadyH.cons rfl (fun K hK => ?_) AllReadyH.nil)
    · obtain ⟨bI, dI, u', run, hx'⟩ := hx.apI hL8
      have RUN := hid run
      clear run
      rw [if_pos (by kernel_rfl)]
      refine wp_append_known (.tmp 115) (.tmp 117) 28 rfl _ _ rfl rfl _ u' RUN.out ?_
      refine hK.out _ _ trivial (fun hHeld => ?_)
      clear hK K
      simp only [List.getElem_toArray, List.getElem_cons_succ, List.getElem_cons_zero, Act.put, List.setIfInBounds_toArray, List.set_cons_zero, List.set_cons_succ]
      refine wpAnyH_norm (l2 := #[true, true, true, true, true, true, true, false, true, true, true, false, false, false, false, false]) (f2 := 6) (by kernel_rfl) (by kernel_rfl) ?_
      exact KEY_2_3_6_10.out ({ x with bI := bI, dI := dI }) _ (hx')
    · go_simp
      refine hK.out _ _ trivial (fun hHeld => ?_)
      clear hK K
      simp only [List.getElem_toArray, List.getElem_cons_succ, List.getElem_cons_zero, Act.put, List.setIfInBounds_toArray, List.set_cons_zero, List.set_cons_succ]
      refine wpAnyH_norm (l2 := #[true, true, true, false, true, true, true, false, true, true, true, true, false, false, false, false]) (f2 := 6) (by kernel_rfl) (by kernel_rfl) ?_
      exact KEY_2_6_10_11.out ({ x with g3 := u.heap.size }) _ (hx.b3)
  simp only [List.getElem_toArray, List.getElem_cons_succ, List.getElem_cons_zero, Act.put, List.setIfInBounds_toArray, List.set_cons_zero, List.set_cons_succ] at KEY_2_6_10
  refine share X24 7 #[true, true, true, false, true, true, false, false, true, true, true, true, false, false, false, false] (fun fr x => (((fr).put (some 117) (.slice (some ⟨x.g1, 0, none⟩) 1 1)).put (some 125) (.slice (some ⟨x.gm, 0, none⟩) q q)).put (some 126) (.slice (some ⟨x.g3, 0, none⟩) 1 1)) (P24 true false false false true true w.drew base col aI L cI (ints (Os.map Ob.id)) aS cS (ints (Os.map fun o => (o.data.length : Int))) aW cW (Os.map (wv G)) id q (List.replicate q (.int .u8 0))) ?_ (fun KEY_2_10_11 => ?_)
  · intro x u hx
    have hHeld : True := trivial
    simp only [List.getElem_toArray, List.getElem_cons_succ, List.getElem_cons_zero, Act.put, List.setIfInBounds_toArray, List.set_cons_zero, List.set_cons_succ]
    refine wpAnyH_norm (l2 := #[true, true, true, false, true, true, false, false, true, true, true, true, false, false, false, false]) (f2 := 7) (by kernel_rfl) (by kernel_rfl) ?_
    refine wpAnyH_ready (rs := [3, 6]) (by kernel_rfl) (by simp) ?_
    refine AllReadyH.cons rfl (fun K hK => ?_) (AllReadyH.cons rfl (fun K hK => ?_) AllReadyH.nil)
    · obtain ⟨bI, dI, u', run, hx'⟩ := hx.apI hL8
      have RUN := hid run
      clear run
      rw [if_pos (by kernel_rfl)]
      refine wp_append_known (.tmp 115) (.tmp 117) 28 rfl _ _ rfl rfl _ u' RUN.out ?_
      refine hK.out _ _ trivial (fun hHeld => ?_)
      clear hK K
      simp only [List.getElem_toArray, List.getElem_cons_succ, List.getElem_cons_zero, Act.put, List.setIfInBounds_toArray, List.set_cons_zero, List.set_cons_succ]
      refine wpAnyH_norm (l2 := #[true, true, true, true, true, true, false, false, true, true, true, true, false, false, false, false]) (f2 := 6) (by kernel_rfl) (by kernel_rfl) ?_
      exact KEY_2_3_10_11.out ({ x with bI := bI, dI := dI }) _ (hx')
    · go_simp
      refine hK.out _ _ trivial (fun hHeld => ?_)
      clear hK K
      simp only [List.getElem_toArray, List.getElem_cons_succ, List.getElem_cons_zero, Act.put, List.setIfInBounds_toArray, List.set_cons_zero, List.set_cons_succ]
      refine wpAnyH_norm (l2 := #[true, true, true, false, true, true, true, false, true, true, true, true, false, false, false, false]) (f2 := 6) (by kernel_rfl) (by kernel_rfl) ?_
      exact KEY_2_6_10_11.out ({ x with g2 := u.heap.size }) _ (hx.b2)
  simp only [List.getElem_toArray, List.getElem_cons_succ, List.getElem_cons_zero, Act.put, List.setIfInBounds_toArray, List.set_cons_zero, List.set_cons_succ] at KEY_2_10_11
  refine share X24 7 #[true, true, false, false, true, true, true, false, true, true, true, true, false, false, false, false] (fun fr x => (((fr).put (some 121) (.slice (some ⟨x.g2, 0, none⟩) 1 1)).put (some 125) (.slice (some ⟨x.gm, 0, none⟩) q q)).put (some 126) (.slice (some ⟨x.g3, 0, none⟩) 1 1)) (P24 false false true false true true w.drew base col aI L cI (ints (Os.map Ob.id)) aS cS (ints (Os.map fun o => (o.data.length : Int))) aW cW (Os.map (wv G)) id q (List.replicate q (.int .u8 0))) ?_ (fun KEY_6_10_11 => ?_)
  · intro x u hx
    have hHeld : True := trivial
    simp only [List.getElem_toArray, List.getElem_cons_succ, List.getElem_cons_zero, Act.put, List.setIfInBounds_toArray, List.set_cons_zero, List.set_cons_succ]
    refine wpAnyH_norm (l2 := #[true, true, false, false, true, true, true, false, true, true, true, true, false, false, false, false]) (f2 := 7) (by kernel_rfl) (by kernel_rfl) ?_
    refine wpAnyH_ready (rs := [2]) (by kernel_rfl) (by simp) ?_
    refine AllReadyH.cons rfl (fun K hK => ?_) AllReadyH.nil
    · go_simp
      refine hK.out _ _ trivial (fun hHeld => ?_)
      clear hK K
      simp only [List.getElem_toArray, List.getElem_cons_succ, List.getElem_cons_zero, Act.put, List.setIfInBounds_toArray, List.set_cons_zero, List.set_cons_succ]
      refine wpAnyH_norm (l2 := #[true, true, true, false, true, true, true, false, true, true, true, true, false, false, false, false]) (f2 := 6) (by kernel_rfl) (by kernel_rfl) ?_
      exact KEY_2_6_10_11.out ({ x with g1 := u.heap.size }) _ (hx.b1)
  simp only [List.getElem_toArray, List.getElem_cons_succ, List.getElem_cons_zero, Act.put, List.setIfInBounds_toArray, List.set_cons_zero, List.set_cons_succ] at KEY_6_10_11
  refine share X24 8 #[true, true, true, true, true, true, false, false, true, true, false, false, false, false, false, false] (fun fr x => ((fr).put (some 117) (.slice (some ⟨x.g1, 0, none⟩) 1 1)).put (some 118) (.slice x.bI (L + 1) x.dI)) (P24 true true false false false false w.drew base col aI L cI (ints (Os.map Ob.id)) aS cS (ints (Os.map fun o => (o.data.length : Int))) aW cW (Os.map (wv G)) id q (List.replicate q (.int .u8 0))) ?_ (fun KEY_2_3 => ?_)
  · intro x u hx
    have hHeld : True := trivial
    simp only [List.getElem_toArray, List.getElem_cons_succ, List.getElem_cons_zero, Act.put, List.setIfInBounds_toArray, List.set_cons_zero, List.set_cons_succ]
    refine wpAnyH_norm (l2 := #[true, true, true, true, true, true, false, false, true, true, false, false, false, false, false, false]) (f2 := 8) (by kernel_rfl) (by kernel_rfl) ?_
    refine wpAnyH_ready (rs := [6, 10]) (by kernel_rfl) (by simp) ?_
    refine AllReadyH.cons rfl (fun K hK => ?_) (AllReadyH.cons rfl (fun K hK => ?_) AllReadyH.nil)
    · go_simp
      refine hK.out _ _ trivial (fun hHeld => ?_)
      clear hK K
      simp only [List.getElem_toArray, List.getElem_cons_succ, List.getElem_cons_zero, Act.put, List.setIfInBounds_toArray, List.set_cons_zero, List.set_cons_succ]
      refine wpAnyH_norm (l2 := #[true, true, true, true, true, true, true, false, true, true, false, false, false, false, false, false]) (f2 := 7) (by kernel_rfl) (by kernel_rfl) ?_
      exact KEY_2_3_6.out ({ x with g2 := u.heap.size }) _ (hx.b2)
    · go_simp
      refine hK.out _ _ trivial (fun hHeld => ?_)
      clear hK K
      simp only [List.getElem_toArray, List.getElem_cons_succ, List.getElem_cons_zero, Act.put, List.setIfInBounds_toArray, List.set_cons_zero, List.set_cons_succ]
      refine wpAnyH_norm (l2 := #[true, true, true, true, true, true, false, false, true, true, true, false, false, false, false, false]) (f2 := 7) (by kernel_rfl) (by kernel_rfl) ?_
      exact KEY_2_3_10.out ({ x with gm := u.heap.size }) _ (hx.mk_ Z HZ.out)
  simp only [List.getElem_toArray, List.getElem_cons_succ, List.getElem_cons_zero, Act.put, List.setIfInBounds_toArray, List.set_cons_zero, List.set_cons_succ] at KEY_2_3
  refine share X24 8 #[true, true, true, false, true, true, true, false, true, true, false, false, false, false, false, false] (fun fr x => ((fr).put (some 117) (.slice (some ⟨x.g1, 0, none⟩) 1 1)).put (some 121) (.slice (some ⟨x.g2, 0, none⟩) 1 1)) (P24 true false true false false false w.drew base col aI L cI (ints (Os.map Ob.id)) aS cS (ints (Os.map fun o => (o.data.length : Int))) aW cW (Os.map (wv G)) id q (List.replicate q (.int .u8 0))) ?_ (fun KEY_2_6 => ?_)
  · intro x u hx
    have hHeld : True := trivial
    simp only [List.getElem_toArray, List.getElem_cons_succ, List.getElem_cons_zero, Act.put, List.setIfInBounds_toArray, List.set_cons_zero, List.set_cons_succ]
    refine wpAnyH_norm (l2 := #[true, true, true, false, true, true, true, false, true, true, false, false, false, false, false, false]) (f2 := 8) (by kernel_rfl) (by kernel_rfl) ?_
    refine wpAnyH_ready (rs := [3, 10]) (by kernel_rfl) (by simp) ?_
    refine AllReadyH.cons rfl (fun K hK => ?_) (AllReadyH.cons rfl (fun K hK => ?_) AllReadyH.nil)
    · obtain ⟨bI, dI, u', run, hx'⟩ := hx.apI hL8
      have RUN := hid run
      clear run
      rw [if_pos (by kernel_rfl)]
      refine wp_append_known (.tmp 115) (.tmp 117) 28 rfl _ _ rfl rfl _ u' RUN.out ?_
      refine hK.out _ _ trivial (fun hHeld => ?_)
      clear hK K
      simp only [List.getElem_toArray, List.getElem_cons_succ, List.getElem_cons_zero, Act.put, List.setIfInBounds_toArray, List.set_cons_zero, List.set_cons_succ]
      refine wpAnyH_norm (l2 := #[true, true, true, true, true, true, true, false, true, true, false, false, false, false, false, false]) (f2 := 7) (by kernel_rfl) (by kernel_rfl) ?_
      exact KEY_2_3_6.out ({ x with bI := bI, dI := dI }) _ (hx')
    · go_simp
      refine hK.out _ _ trivial (fun hHeld => ?_)
      clear hK K
      simp only [List.getElem_toArray, List.getElem_cons_succ, List.getElem_cons_zero, Act.put, List.setIfInBounds_toArray, List.set_cons_zero, List.set_cons_succ]
      refine wpAnyH_norm (l2 := #[true, true, true, false, true, true, true, false, true, true, true, false, false, false, false, false]) (f2 := 7) (by kernel_rfl) (by kernel_rfl) ?_
      exact KEY_2_6_10.out ({ x with gm := u.heap.size }) _ (hx.mk_ Z HZ.out)
  simp only [List.getElem_toArray, List.getElem_cons_succ, List.getElem_cons_zero, Act.put, List.setIfInBounds_toArray, List.set_cons_zero, List.set_cons_succ] at KEY_2_6
  refine share X24 8 #[true, true, true, false, true, true, false, false, true, true, true, false, false, false, false, false] (fun fr x => ((fr).put (some 117) (.slice (some ⟨x.g1, 0, none⟩) 1 1)).put (some 125) (.slice (some ⟨x.gm, 0, none⟩) q q)) (P24 true false false false true false w.drew base col aI L cI (ints (Os.map Ob.id)) aS cS (ints (Os.map fun o => (o.data.length : Int))) aW cW (Os.map (wv G)) id q (List.replicate q (.int .u8 0))) ?_ (fun KEY_2_10 => ?_)
  · intro x u hx
    have hHeld : True := trivial
    simp only [List.getElem_toArray, List.getElem_cons_succ, List.getElem_cons_zero, Act.put, List.setIfInBounds_toArray, List.set_cons_zero, List.set_cons_succ]
    refine wpAnyH_norm (l2 := #[true, true, true, false, true, true, false, false, true, true, true, false, false, false, false, false]) (f2 := 8) (by kernel_rfl) (by kernel_rfl) ?_
    refine wpAnyH_ready (rs := [3, 6, 11]) (by kernel_rfl) (by simp) ?_
    refine AllReadyH.cons rfl (fun K hK => ?_) (AllReadyH.cons rfl (fun K hK => ?_) (AllReadyH.cons rfl (fun K hK => ?_) AllReadyH.nil))
    · obtain ⟨bI, dI, u', run, hx'⟩ := hx.apI hL8
      have RUN := hid run
      clear run
      rw [if_pos (by kernel_rfl)]
      refine wp_append_known (.tmp 115) (.tmp 117) 28 rfl _ _ rfl rfl _ u' RUN.out ?_
      refine hK.out _ _ trivial (fun hHeld => ?_)
      clear hK K
      simp only [List.getElem_toArray, List.getElem_cons_succ, List.getElem_cons_zero, Act.put, List.setIfInBounds_toArray, List.set_cons_zero, List.set_cons_succ]
      refine wpAnyH_norm (l2 := #[true, true, true, true, true, true, false, false, true, true, true, false, false, false, false, false]) (f2 := 7) (by kernel_rfl) (by kernel_rfl) ?_
      exact KEY_2_3_10.out ({ x with bI := bI, dI := dI }) _ (hx')
    · go_simp
      refine hK.out _ _ trivial (fun hHeld => ?_)
      clear hK K
      simp only [List.getElem_toArray, List.getElem_cons_succ, List.getElem_cons_zero, Act.put, List.setIfInBounds_toArray, List.set_cons_zero, List.set_cons_succ]
      refine wpAnyH_norm (l2 := #[true, true, true, false, true, true, true, false, true, true, true, false, false, false, false, false]) (f2 := 7) (by kernel_rfl) (by kernel_rfl) ?_
      exact KEY_2_6_10.out ({ x with g2 := u.heap.size }) _ (hx.b2)
    · go_simp
      refine hK.out _ _ trivial (fun hHeld => ?_)
      clear hK K
      simp only [List.getElem_toArray, List.getElem_cons_succ, List.getElem_cons_zero, Act.put, List.setIfInBounds_toArray, List.set_cons_zero, List.set_cons_succ]
      refine wpAnyH_norm (l2 := #[true, true, true, false, true, true, false, false, true, true, true, true, false, false, false, false]) (f2 := 7) (by kernel_rfl) (by kernel_rfl) ?_
      exact KEY_2_10_11.out ({ x with g3 := u.heap.size }) _ (hx.b3)
  simp only [List.getElem_toArray, List.getElem_cons_succ, List.getElem_cons_zero, Act.put, List.setIfInBounds_toArray, List.set_cons_zero, List.set_cons_succ] at KEY_2_10
  refine share X24 8 #[true, true, false, false, true, true, true, false, true, true, true, false, false, false, false, false] (fun fr x => ((fr).put (some 121) (.slice (some ⟨x.g2, 0, none⟩) 1 1)).put (some 125) (.slice (some ⟨x.gm, 0, none⟩) q q)) (P24 false false true false true false w.drew base col aI L cI (ints (Os.map Ob.id)) aS cS (ints (Os.map fun o => (o.data.length : Int))) aW cW (Os.map (wv G)) id q (List.replicate q (.int .u8 0))) ?_ (fun KEY_6_10 => ?_)
  · intro x u hx
    have hHeld : True := trivial
    simp only [List.getElem_toArray, List.getElem_cons_succ, List.getElem_cons_zero, Act.put, List.setIfInBounds_toArray, List.set_cons_zero, List.set_cons_succ]
    refine wpAnyH_norm (l2 := #[true, true, false, false, true, true, true, false, true, true, true, false, false, false, false, false]) (f2 := 8) (by kernel_rfl) (by kernel_rfl) ?_
    refine wpAnyH_ready (rs := [2, 11]) (by kernel_rfl) (by simp) ?_
    refine AllReadyH.cons rfl (fun K hK => ?_) (AllReadyH.cons rfl (fun K hK => ?_) AllReadyH.nil)
    · go_simp
      refine hK.out _ _ trivial (fun hHeld => ?_)
      clear hK K
      simp only [List.getElem_toArray, List.getElem_cons_succ, List.getElem_cons_zero, Act.put, List.setIfInBounds_toArray, List.set_cons_zero, List.set_cons_succ]
      refine wpAnyH_norm (l2 := #[true, true, true, false, true, true, true, false, true, true, true, false, false, false, false, false]) (f2 := 7) (by kernel_rfl) (by kernel_rfl) ?_
      exact KEY_2_6_10.out ({ x with g1 := u.heap.size }) _ (hx.b1)
    · go_simp
      refine hK.out _ _ trivial (fun hHeld => ?_)
      clear hK K
      simp only [List.getElem_toArray, List.getElem_cons_succ, List.getElem_cons_zero, Act.put, List.setIfInBounds_toArray, List.set_cons_zero, List.set_cons_succ]
      refine wpAnyH_norm (l2 := #[true, true, false, false, true, true, true, false, true, true, true, true, false, false, false, false]) (f2 := 7) (by kernel_rfl) (by kernel_rfl) ?_
      exact KEY_6_10_11.out ({ x with g3 := u.heap.size }) _ (hx.b3)
  simp only [List.getElem_toArray, List.getElem_cons_succ, List.getElem_cons_zero, Act.put, List.setIfInBounds_toArray, List.set_cons_zero, List.set_cons_succ] at KEY_6_10
  refine share X24 8 #[true, true, false, false, true, true, false, false, true, true, true, true, false, false, false, false] (fun fr x => ((fr).put (some 125) (.slice (some ⟨x.gm, 0, none⟩) q q)).put (some 126) (.slice (some ⟨x.g3, 0, none⟩) 1 1)) (P24 false false false false true true w.drew base col aI L cI (ints (Os.map Ob.id)) aS cS (ints (Os.map fun o => (o.data.length : Int))) aW cW (Os.map (wv G)) id q (List.replicate q (.int .u8 0))) ?_ (fun KEY_10_11 => ?_)
  · intro x u hx
    have hHeld : True := trivial
    simp only [List.getElem_toArray, List.getElem_cons_succ, List.getElem_cons_zero, Act.put, List.setIfInBounds_toArray, List.set_cons_zero, List.set_cons_succ]
    refine wpAnyH_norm (l2 := #[true, true, false, false, true, true, false, false, true, true, true, true, false, false, false, false]) (f2 := 8) (by kernel_rfl) (by kernel_rfl) ?_
    refine wpAnyH_ready (rs := [2, 6]) (by kernel_rfl) (by simp) ?_
    refine AllReadyH.cons rfl (fun K hK => ?_) (AllReadyH.cons rfl (fun K hK => ?_) AllReadyH.nil)
    · go_simp
      refine hK.out _ _ trivial (fun hHeld => ?_)
      clear hK K
      simp only [List.getElem_toArray, List.getElem_cons_succ, List.getElem_cons_zero, Act.put, List.setIfInBounds_toArray, List.set_cons_zero, List.set_cons_succ]
      refine wpAnyH_norm (l2 := #[true, true, true, false, true, true, false, false, true, true, true, true, false, false, false, false]) (f2 := 7) (by kernel_rfl) (by kernel_rfl) ?_
      exact KEY_2_10_11.out ({ x with g1 := u.heap.size }) _ (hx.b1)
    · go_simp
      refine hK.out _ _ trivial (fun hHeld => ?_)
      clear hK K
      simp only [List.getElem_toArray, List.getElem_cons_succ, List.getElem_cons_zero, Act.put, List.setIfInBounds_toArray, List.set_cons_zero, List.set_cons_succ]
      refine wpAnyH_norm (l2 := #[true, true, false, false, true, true, true, false, true, true, true, true, false, false, false, false]) (f2 := 7) (by kernel_rfl) (by kernel_rfl) ?_
      exact KEY_6_10_11.out ({ x with g2 := u.heap.size }) _ (hx.b2)
  simp only [List.getElem_toArray, List.getElem_cons_succ, List.getElem_cons_zero, Act.put, List.setIfInBounds_toArray, List.set_cons_zero, List.set_cons_succ] at KEY_10_11
  refine share X24 9 #[true, true, true, false, true, true, false, false, true, true, false, false, false, false, false, false] (fun fr x => (fr).put (some 117) (.slice (some ⟨x.g1, 0, none⟩) 1 1)) (P24 true false false false false false w.drew base col aI L cI (ints (Os.map Ob.id)) aS cS (ints (Os.map fun o => (o.data.length : Int))) aW cW (Os.map (wv G)) id q (List.replicate q (.int .u8 0))) ?_ (fun KEY_2 => ?_)
  · intro x u hx
    have hHeld : True := trivial
    simp only [List.getElem_toArray, List.getElem_cons_succ, List.getElem_cons_zero, Act.put, List.setIfInBounds_toArray, List.set_cons_zero, List.set_cons_succ]
    refine wpAnyH_norm (l2 := #[true, true, true, false, true, true, false, false, true, true, false, false, false, false, false, false]) (f2 := 9) (by kernel_rfl) (by kernel_rfl) ?_
    refine wpAnyH_ready (rs := [3, 6, 10]) (by kernel_rfl) (by simp) ?_
    refine AllReadyH.cons rfl (fun K hK => ?_) (AllReadyH.cons rfl (fun K hK => ?_) (AllReadyH.cons rfl (fun K hK => ?_) AllReadyH.nil))
    · obtain ⟨bI, dI, u', run, hx'⟩ := hx.apI hL8
      have RUN := hid run
      clear run
      rw [if_pos (by kernel_rfl)]
      refine wp_append_known (.tmp 115) (.tmp 117) 28 rfl _ _ rfl rfl _ u' RUN.out ?_
      refine hK.out _ _ trivial (fun hHeld => ?_)
      clear hK K
      simp only [List.getElem_toArray, List.getElem_cons_succ, List.getElem_cons_zero, Act.put, List.setIfInBounds_toArray, List.set_cons_zero, List.set_cons_succ]
      refine wpAnyH_norm (l2 := #[true, true, true, true, true, true, false, false, true, true, false, false, false, false, false, false]) (f2 := 8) (by kernel_rfl) (by kernel_rfl) ?_
      exact KEY_2_3.out ({ x with bI := bI, dI := dI }) _ (hx')
    · go_simp
      refine hK.out _ _ trivial (fun hHeld => ?_)
      clear hK K
      simp only [List.getElem_toArray, List.getElem_cons_succ, List.getElem_cons_zero, Act.put, List.setIfInBounds_toArray, List.set_cons_zero, List.set_cons_succ]
      refine wpAnyH_norm (l2 := #[true, true, true, false, true, true, true, false, true, true, false, false, false, false, false, false]) (f2 := 8) (by kernel_rfl) (by kernel_rfl) ?_
      exact KEY_2_6.out ({ x with g2 := u.heap.size }) _ (hx.b2)
    · go_simp
      refine hK.out _ _ trivial (fun hHeld => ?_)
      clear hK K
      simp only [List.getElem_toArray, List.getElem_cons_succ, List.getElem_cons_zero, Act.put, List.setIfInBounds_toArray, List.set_cons_zero, List.set_cons_succ]
      refine wpAnyH_norm (l2 := #[true, true, true, false, true, true, false, false, true, true, true, false, false, false, false, false]) (f2 := 8) (by kernel_rfl) (by kernel_rfl) ?_
      exact KEY_2_10.out ({ x with gm := u.heap.size }) _ (hx.mk_ Z HZ.out)
  simp only [List.getElem_toArray, List.getElem_cons_succ, List.getElem_cons_zero, Act.put, List.setIfInBounds_toArray, List.set_cons_zero, List.set_cons_succ] at KEY_2
  refine share X24 9 #[true, true, false, false, true, true, true, false, true, true, false, false, false, false, false, false] (fun fr x => (fr).put (some 121) (.slice (some ⟨x.g2, 0, none⟩) 1 1)) (P24 false false true false false false w.drew base col aI L cI (ints (Os.map Ob.id)) aS cS (ints (Os.map fun o => (o.data.length : Int))) aW cW (Os.map (wv G)) id q (List.replicate q (.int .u8 0))) ?_ (fun KEY_6 => ?_)
  · intro x u hx
    have hHeld : True := trivial
    simp only [List.getElem_toArray, List.getElem_cons_succ, List.getElem_cons_zero, Act.put, List.setIfInBounds_toArray, List.set_cons_zero, List.set_cons_succ]
    refine wpAnyH_norm (l2 := #[true, true, false, false, true, true, true, false, true, true, false, false, false, false, false, false]) (f2 := 9) (by kernel_rfl) (by kernel_rfl) ?_
    refine wpAnyH_ready (rs := [2, 10]) (by kernel_rfl) (by simp) ?_
    refine AllReadyH.cons rfl (fun K hK => ?_) (AllReadyH.cons rfl (fun K hK => ?_) AllReadyH.nil)
    · go_simp
      refine hK.out _ _ trivial (fun hHeld => ?_)
      clear hK K
      simp only [List.getElem_toArray, List.getElem_cons_succ, List.getElem_cons_zero, Act.put, List.setIfInBounds_toArray, List.set_cons_zero, List.set_cons_succ]
      refine wpAnyH_norm (l2 := #[true, true, true, false, true, true, true, false, true, true, false, false, false, false, false, false]) (f2 := 8) (by kernel_rfl) (by kernel_rfl) ?_
      exact KEY_2_6.out ({ x with g1 := u.heap.size }) _ (hx.b1)
    · go_simp
      refine hK.out _ _ trivial (fun hHeld => ?_)
      clear hK K
      simp only [List.getElem_toArray, List.getElem_cons_succ, List.getElem_cons_zero, Act.put, List.setIfInBounds_toArray, List.set_cons_zero, List.set_cons_succ]
      refine wpAnyH_norm (l2 := #[true, true, false, false, true, true, true, false, true, true, true, false, false, false, false, false]) (f2 := 8) (by kernel_rfl) (by kernel_rfl) ?_
      exact KEY_6_10.out ({ x with gm := u.heap.size }) _ (hx.mk_ Z HZ.out)
  simp only [List.getElem_toArray, List.getElem_cons_succ, List.getElem_cons_zero, Act.put, List.setIfInBounds_toArray, List.set_cons_zero, List.set_cons_succ] at KEY_6
  refine share X24 9 #[true, true, false, false, true, true, false, false, true, true, true, false, false, false, false, false] (fun fr x => (fr).put (some 125) (.slice (some ⟨x.gm, 0, none⟩) q q)) (P24 false false false false true false w.drew base col aI L cI (ints (Os.map Ob.id)) aS cS (ints (Os.map fun o => (o.data.length : Int))) aW cW (Os.map (wv G)) id q (List.replicate q (.int .u8 0))) ?_ (fun KEY_10 => ?_)
  · intro x u hx
    have hHeld : True := trivial
    simp only [List.getElem_toArray, List.getElem_cons_succ, List.getElem_cons_zero, Act.put, List.setIfInBounds_toArray, List.set_cons_zero, List.set_cons_succ]
    refine wpAnyH_norm (l2 := #[true, true, false, false, true, true, false, false, true, true, true, false, false, false, false, false]) (f2 := 9) (by kernel_rfl) (by kernel_rfl) ?_
    refine wpAnyH_ready (rs := [2, 6, 11]) (by kernel_rfl) (by simp) ?_
    refine AllReadyH.cons rfl (fun K hK => ?_) (AllReadyH.cons rfl (fun K hK => ?_) (AllReadyH.cons rfl (fun K hK => ?_) AllReadyH.nil))
    · go_simp
      refine hK.out _ _ trivial (fun hHeld => ?_)
      clear hK K
      simp only [List.getElem_toArray, List.getElem_cons_succ, List.getElem_cons_zero, Act.put, List.setIfInBounds_toArray, List.set_cons_zero, List.set_cons_succ]
      refine wpAnyH_norm (l2 := #[true, true, true, false, true, true, false, false, true, true, true, false, false, false, false, false]) (f2 := 8) (by kernel_rfl) (by kernel_rfl) ?_
      exact KEY_2_10.out ({ x with g1 := u.heap.size }) _ (hx.b1)
    · go_simp
      refine hK.out _ _ trivial (fun hHeld => ?_)
      clear hK K
      simp only [List.getElem_toArray, List.getElem_cons_succ, List.getElem_cons_zero, Act.put, List.setIfInBounds_toArray, List.set_cons_zero, List.set_cons_succ]
      refine wpAnyH_norm (l2 := #[true, true, false, false, true, true, true, false, true, true, true, false, false, false, false, false]) (f2 := 8) (by kernel_rfl) (by kernel_rfl) ?_
      exact KEY_6_10.out ({ x with g2 := u.heap.size }) _ (hx.b2)
    · go_simp
      refine hK.out _ _ trivial (fun hHeld => ?_)
      clear hK K
      simp only [List.getElem_toArray, List.getElem_cons_succ, List.getElem_cons_zero, Act.put, List.setIfInBounds_toArray, List.set_cons_zero, List.set_cons_succ]
      refine wpAnyH_norm (l2 := #[true, true, false, false, true, true, false, false, true, true, true, true, false, false, false, false]) (f2 := 8) (by kernel_rfl) (by kernel_rfl) ?_
      exact KEY_10_11.out ({ x with g3 := u.heap.size }) _ (hx.b3)
  simp only [List.getElem_toArray, List.getElem_cons_succ, List.getElem_cons_zero, Act.put, List.setIfInBounds_toArray, List.set_cons_zero, List.set_cons_succ] at KEY_10
  have hx := HX0.out
  obtain ⟨x, hxx⟩ : ∃ x : X24, (⟨0, 0, 0, 0, none, 0, none, 0⟩ : X24) = x := ⟨_, rfl⟩
  rw [hxx] at hx
  refine wpAnyH_norm (l2 := #[true, true, false, false, true, true, false, false, true, true, false, false, false, false, false, false]) (f2 := 10) (by kernel_rfl) (by kernel_rfl) ?_
  refine wpAnyH_ready (rs := [2, 6, 10]) (by kernel_rfl) (by simp) ?_
  refine AllReadyH.cons rfl (fun K hK => ?_) (AllReadyH.cons rfl (fun K hK => ?_) (AllReadyH.cons rfl (fun K hK => ?_) AllReadyH.nil))
  · go_simp
    refine hK.out _ _ trivial (fun hHeld => ?_)
    clear hK K
    simp only [List.getElem_toArray, List.getElem_cons_succ, List.getElem_cons_zero, Act.put, List.setIfInBounds_toArray, List.set_cons_zero, List.set_cons_succ]
    refine wpAnyH_norm (l2 := #[true, true, true, false, true, true, false, false, true, true, false, false, false, false, false, false]) (f2 := 9) (by kernel_rfl) (by kernel_rfl) ?_
    exact KEY_2.out ({ x with g1 := w.drew.heap.size }) _ (hx.b1)
  · go_simp
    refine hK.out _ _ trivial (fun hHeld => ?_)
    clear hK K
    simp only [List.getElem_toArray, List.getElem_cons_succ, List.getElem_cons_zero, Act.put, List.setIfInBounds_toArray, List.set_cons_zero, List.set_cons_succ]
    refine wpAnyH_norm (l2 := #[true, true, false, false, true, true, true, false, true, true, false, false, false, false, false, false]) (f2 := 9) (by kernel_rfl) (by kernel_rfl) ?_
    exact KEY_6.out ({ x with g2 := w.drew.heap.size }) _ (hx.b2)
  · go_simp
    refine hK.out _ _ trivial (fun hHeld => ?_)
    clear hK K
    simp only [List.getElem_toArray, List.getElem_cons_succ, List.getElem_cons_zero, Act.put, List.setIfInBounds_toArray, List.set_cons_zero, List.set_cons_succ]
    refine wpAnyH_norm (l2 := #[true, true, false, false, true, true, false, false, true, true, true, false, false, false, false, false]) (f2 := 9) (by kernel_rfl) (by kernel_rfl) ?_
    exact KEY_10.out ({ x with gm := w.drew.heap.size }) _ (hx.mk_ Z HZ.out)
end Go.Proofs.Ytejkbeeffllpfaa
