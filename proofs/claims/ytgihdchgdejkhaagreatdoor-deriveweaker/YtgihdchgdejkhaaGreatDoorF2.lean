import Derived.Test.YtgihdchgdejkhaaGreatDoorF1
namespace Go.Proofs.YtgihdchgdejkhaaGreatDoor.D
open Go.RowKit
open Go.Proofs.YtgihdchgdejkhaaGreatDoor.H (B64 Cp)
set_option linter.unusedVariables false

/-! ### The document's three in memory -/
structure Kd where
  g : Nat
  gb : Nat
  r : Nat
  b : Nat
  q : Nat
  f : Nat → Nat
  W : Int
  m1 : Nat
  m2 : Nat
  m3 : Nat
structure Doc (w : World) (P : Par) (K : Kd) (s : Sta) (T : Nat) : Prop where
  d : Dw w K.g K.gb P.n K.f K.W s.t
  cf : P.c = cutF K.f K.W
  c : ∃ wh ev, Rf w K.r K.b P.mo s.X s.l wh ev ∧ Tim s.l wh ev ∧ ev ≤ T
  q : ∃ pa cap, Q.Rf w K.m3 K.q P.e P.a pa cap s.L
  i1 : K.m1 ≤ K.g ∧ K.g < K.m2 ∧ (0 < P.n → K.m1 ≤ K.gb ∧ K.gb < K.m2)
  i2 : K.m2 ≤ K.r ∧ K.m2 ≤ K.b ∧ K.r < K.m3 ∧ K.b < K.m3
theorem Doc.but {S : Nat → Prop} {w w' : World} {P : Par} {K : Kd} {s : Sta} {T : Nat} (h : Doc w P K s T) (hb : But S w w') (hS : ∀ k, S k → k < K.m1) : Doc w' P K s T := by
  obtain ⟨i1, i2, i3⟩ := h.i1
  obtain ⟨j1, j2, j3, j4⟩ := h.i2
  obtain ⟨wh, ev, hr, ht, he⟩ := h.c
  obtain ⟨pa, cap, hq⟩ := h.q
  have hn : ∀ k, K.m1 ≤ k → ¬ S k := fun k hk e => by have := hS k e; omega
  exact ⟨h.d.but hb (hn _ i1) (fun h0 => hn _ (i3 h0).1), h.cf, ⟨wh, ev, hr.but hb (hn _ (by omega)) (hn _ (by omega)), ht, he⟩, ⟨pa, cap, hq.but hb (hn _ (by have := hq.lo; omega)) (fun k hk => hn _ (by have := hq.own.blk k hk; omega))⟩, h.i1, h.i2⟩
theorem Doc.later {w w' : World} {P : Par} {K : Kd} {s : Sta} {T : Nat} (h : Doc w P K s T) (hb : Below w.heap.size w w') : Doc w' P K s T := h.but (S := fun _ => False) (But.of hb) (fun _ h => h.elim)
/-- Three pointers in a row. -/
structure Tp (w : World) (b : Nat) (x y z : Nat) : Prop where
  c0 : w.cell? ⟨b, 0, none⟩ = some (.pointer (some ⟨x, 0, none⟩))
  c1 : w.cell? ⟨b, 1, none⟩ = some (.pointer (some ⟨y, 0, none⟩))
  c2 : w.cell? ⟨b, 2, none⟩ = some (.pointer (some ⟨z, 0, none⟩))
theorem Tp.but {S : Nat → Prop} {w w' : World} {b x y z : Nat} (h : Tp w b x y z) (hb : But S w w') (hn : ¬ S b) : Tp w' b x y z := ⟨cell_but hb h.c0 hn, cell_but hb h.c1 hn, cell_but hb h.c2 hn⟩
theorem Tp.later {w w' : World} {b x y z : Nat} (h : Tp w b x y z) (hb : Below w.heap.size w w') : Tp w' b x y z := h.but (S := fun _ => False) (But.of hb) (fun h => h)
theorem Tp.lt {w : World} {b x y z : Nat} (h : Tp w b x y z) : b < w.heap.size := World.block_lt_of_cell? _ _ h.c0
def s0 (mo : Nat) : Sta := ⟨List.replicate mo tz, [], [], 0⟩
/-- What made gives. -/
def MadeP (w : World) (P : Par) (e : Ending) (w' : World) : Prop :=
  ∃ (H : Hd) (K : Kd) (sb rb : Nat), e = .returned (.tuple #[.pointer (some ⟨sb, 0, none⟩), .pointer (some ⟨rb, 0, none⟩)]) ∧ H.toPar = P ∧ Tri w' H (s0 P.mo) ∧ Doc w' P K (s0 P.mo) 0 ∧ Tp w' sb H.g H.A.g H.qg ∧ Tp w' rb K.g K.r K.q ∧
    (∀ k, H.Wr k → w.heap.size ≤ k) ∧ w.heap.size ≤ K.m1 ∧ (∀ k, H.All k → k < K.m1) ∧ (K.m1 ≤ sb ∧ K.m1 ≤ rb) ∧ (sb ≠ K.g ∧ sb ≠ K.r ∧ sb ≠ K.b ∧ sb ≠ K.q ∧ rb ≠ K.g ∧ rb ≠ K.r ∧ rb ≠ K.b ∧ rb ≠ K.q) ∧ Below w.heap.size w w'
set_option maxRecDepth 100000 in
set_option maxHeartbeats 2000000 in
/-- made. -/
theorem made_any {w : World} (hl : Laid w) (wd : Int) (en ea kn : Nat) {a : Option Addr} {n cap : Nat} {f : Nat → Nat} (h : Ws w a n cap f) (hn : n ≤ 4096) (h1 : 1 ≤ wd) (h2 : wd ≤ 128) (h3 : 1 ≤ en) (h4 : en ≤ 256) (h5 : 1 ≤ ea) (h6 : ea ≤ 256) (h7 : kn ≤ 64) :
    Calls Tryz.prog 9 #[woV wd en ea kn a n cap] w (MadeP w ⟨en, ea, en, n, cutF f wd⟩) := by
  obtain ⟨w0, hw0⟩ : ∃ w0, w0 = w.alloc (Obj.cells #[.int .i64 wd, .int .i64 (en : Int), .int .i64 (ea : Int), .int .i64 (kn : Int), .slice a n cap] 24) := ⟨_, rfl⟩
  have hB0 : Below w.heap.size w w0 := by rw [hw0]; exact below1 _ _
  have hwo : Wo w0 w.heap.size wd en ea kn a n cap := by rw [hw0]; exact ⟨by simp [go_sem], by simp [go_sem], by simp [go_sem], by simp [go_sem], by simp [go_sem]⟩
  have HWo : Hid (∀ U, Below w0.heap.size w0 U → Wo U w.heap.size wd en ea kn a n cap) := fun U hU => hwo.but (S := fun _ => False) (But.of hU) (fun h => h)
  obtain ⟨x0, x1, x2, x3, x4⟩ := hwo
  have hpos : 0 < w.heap.size := World.block_lt_of_cell? _ _ hl
  have K1 := hid (new_ok a n cap f wd w0 (h.later hB0) h1 h2 hn)
  have K2 := hid (fun U => cnew_ok U en kn h3 h4 h7)
  have K3 := hid (fun U => Q.new_ok (ea : Int) (en : Int) U ⟨⟨by omega, by omega⟩, by omega, by omega⟩)
  have K4 := hid (fun (U : World) (hU : Below w0.heap.size w0 U) => rnew_ok a n cap f wd U (h.later (below_call hB0 hU)) h1 h2 hn)
  have K5 := hid (fun U => Go.Proofs.YtgihdchgdejkhaaGreatDoor.rnew_ok U en kn h3 h4 h7)
  have K6 := hid (fun U => Q.rnew_ok (ea : Int) (en : Int) U ⟨⟨by omega, by omega⟩, by omega, by omega⟩)
  have HL0 := hid (hl.later hB0)
  have HB0 := hid hB0
  have HS0 : Hid (w.heap.size ≤ w0.heap.size) := hB0.size
  clear h hB0 hl h1 h2 h3 h4 h5 h6 h7
  unfold woV
  go_enter Tryz.func9, Tryz.ntmps9
  go_upto_region 1 with fail
  rw [← hw0]
  clear hw0
  go_upto_region 2 with (first
    | (go_at_call 20; refine K1.out.mono ?_; rintro e w1 ⟨g, gb, rfl, hd1, hg1, hg2, hg3, hb1⟩; have HD1 := hid hd1; have HG1 := hid (And.intro hg1 (And.intro hg2 hg3)); have HB1 := hid hb1; have HC1 := hid hb1; clear hd1 hg1 hg2 hg3 hb1; obtain ⟨x0, x1, x2, x3, x4⟩ := HWo.out w1 HC1.out))
  go_upto_region 3 with (first
    | (go_at_call 21; refine (K2.out w1).mono ?_; rintro e w2 ⟨A, rfl, hc2, ha2, hb2⟩; have HA2 := hid hc2; have HG2 := hid ha2; have HB2 := hid hb2; have HC2 := hid (below_call HC1.out hb2); clear hc2 ha2 hb2; obtain ⟨x0, x1, x2, x3, x4⟩ := HWo.out w2 HC2.out))
  go_upto_region 6 with (first
    | (go_at_call 22; refine (K3.out w2).mono ?_; rintro e w3 ⟨qg, qb, rfl, hq3, hq1, hq2, hb3⟩; have HQ3 := hid hq3; have HG3 := hid (And.intro hq1 hq2); have HB3 := hid hb3; have HC3 := hid (below_call HC2.out hb3); clear hq3 hq1 hq2 hb3; obtain ⟨x0, x1, x2, x3, x4⟩ := HWo.out w3 HC3.out))
  go_upto_region 7 with (first
    | (go_at_call 23; refine (K4.out w3 HC3.out).mono ?_; rintro e w4 ⟨dg, dgb, rfl, hd4, hd1, hd2, hb4⟩; have HD4 := hid hd4; have HG4 := hid (And.intro hd1 hd2); have HB4 := hid hb4; have HC4 := hid (below_call HC3.out hb4); clear hd4 hd1 hd2 hb4; obtain ⟨x0, x1, x2, x3, x4⟩ := HWo.out w4 HC4.out))
  go_upto_region 8 with (first
    | (go_at_call 24; refine (K5.out w4).mono ?_; rintro e w5 ⟨r, b, rfl, hr5, hr1, hr2, hb5⟩; have HR5 := hid hr5; have HG5 := hid (And.intro hr1 hr2); have HB5 := hid hb5; have HC5 := hid (below_call HC4.out hb5); clear hr5 hr1 hr2 hb5; obtain ⟨x0, x1, x2, x3, x4⟩ := HWo.out w5 HC5.out))
  go_wp2_with (first
    | (go_at_call 25; refine (K6.out w5).mono ?_; rintro e w6 ⟨qr, rfl, hq6, hb6⟩; have HQ6 := hid hq6; have HB6 := hid hb6; have HC6 := hid (below_call HC5.out hb6); clear hq6 hb6))
  obtain ⟨W, hW⟩ : ∃ W, W = (w6.alloc (Obj.cells #[.pointer (some ⟨g, 0, none⟩), .pointer (some ⟨A.g, 0, none⟩), .pointer (some ⟨qg, 0, none⟩)] 44)).alloc (Obj.cells #[.pointer (some ⟨dg, 0, none⟩), .pointer (some ⟨r, 0, none⟩), .pointer (some ⟨qr, 0, none⟩)] 76) := ⟨_, rfl⟩
  have hBW : Below w6.heap.size w6 W := by rw [hW]; exact below2 _ _ _
  have t1 : Tp W w6.heap.size g A.g qg := by rw [hW]; exact ⟨by simp [go_sem], by simp [go_sem], by simp [go_sem]⟩
  have t2 : Tp W (w6.heap.size + 1) dg r qr := by rw [hW]; exact ⟨by simp [go_sem], by simp [go_sem], by simp [go_sem]⟩
  have e1 := HB1.out.size
  have e2 := HB2.out.size
  have e3 := HB3.out.size
  have e4 := HB4.out.size
  have e5 := HB5.out.size
  have e6 := HB6.out.size
  have e0 := HS0.out
  have lg := HD1.out.lt
  have lA := HA2.out.lt
  have lqb := HQ3.out.blt
  have lqg := HQ3.out.glt
  have ldg := HD4.out.lt
  have lr := HR5.out.ltr
  have lb := HR5.out.ltb
  have lq := HQ6.out.rlt
  obtain ⟨b1, b2, b3⟩ := HG1.out
  obtain ⟨c1, c2⟩ := HG3.out
  obtain ⟨d1, d2⟩ := HG4.out
  obtain ⟨f1, f2⟩ := HG5.out
  have hlo := HQ6.out.lo
  have cA := HG2.out
  have b26 : Below w2.heap.size w2 W := below_call (below_call (below_call (below_call HB3.out HB4.out) HB5.out) HB6.out) hBW
  have b36 : Below w3.heap.size w3 W := below_call (below_call (below_call HB4.out HB5.out) HB6.out) hBW
  have b46 : Below w4.heap.size w4 W := below_call (below_call HB5.out HB6.out) hBW
  have b56 : Below w5.heap.size w5 W := below_call HB6.out hBW
  have b16 : Below w1.heap.size w1 W := below_call HB2.out b26
  refine bodyPost_ret (v := .tuple #[.pointer (some ⟨w6.heap.size, 0, none⟩), .pointer (some ⟨w6.heap.size + 1, 0, none⟩)]) (by simp [results, Tryz.results9, go_sem]) rfl ?_
  rw [← hW]
  refine ⟨⟨⟨en, ea, en, n, cutF f wd⟩, g, gb, A, kn, qg, qb⟩, ⟨dg, dgb, r, b, qr, f, wd, w3.heap.size, w4.heap.size, w5.heap.size⟩, w6.heap.size, w6.heap.size + 1, rfl, rfl, ⟨HD1.out.later b16, HA2.out.later b26, HQ3.out.later b36, HL0.out.later (below_call HC6.out hBW), ?_⟩, ⟨HD4.out.later b46, rfl, ⟨_, _, HR5.out.later b56, ?_, Nat.le_refl _⟩, ⟨_, _, HQ6.out.later hBW⟩, ⟨d1, ldg, fun h0 => ⟨d2 h0, HD4.out.lt2 h0⟩⟩, ⟨f1, f2, lr, lb⟩⟩, t1, t2, ?_, by show w.heap.size ≤ w3.heap.size; omega, ?_, ⟨by show w3.heap.size ≤ w6.heap.size; omega, by show w3.heap.size ≤ w6.heap.size + 1; omega⟩, ?_, below_call HB0.out (below_call HC6.out hBW)⟩
  · refine ⟨fun k hk => ?_, fun k hk => ?_, fun h0 => ⟨?_, fun e => ?_⟩, ?_, ⟨?_, fun e => ?_⟩, fun k hk => ?_⟩
    · have := cA k hk; show k ≠ g; omega
    · have := lA k hk; show k ≠ qb; omega
    · show gb ≠ qb; omega
    · have := cA _ (wr_all e); have : gb < w1.heap.size := b3; show False; change w1.heap.size ≤ gb at *; omega
    · show g ≠ qb; omega
    · show qg ≠ g; omega
    · have := lA _ (wr_all e); change qg < w2.heap.size at this; show False; omega
    · rcases hk with e | e | hk
      · change k = g at e; omega
      · change k = qb at e; omega
      · have := cA _ (wr_all hk); omega
  · exact ⟨List.Pairwise.nil, fun x hx => by cases hx⟩
  · intro k hk
    rcases hk with e | e | hk
    · change k = g at e; omega
    · change k = qb at e; omega
    · have := cA _ (wr_all hk); omega
  · intro k hk
    show k < w3.heap.size
    rcases hk with e | e | ⟨h0, e⟩ | e | e | hk
    · omega
    · change k = g at e; omega
    · change k = gb at e; omega
    · change k = qg at e; omega
    · change k = qb at e; omega
    · have := lA k hk; omega
  · show w6.heap.size ≠ dg ∧ w6.heap.size ≠ r ∧ w6.heap.size ≠ b ∧ w6.heap.size ≠ qr ∧ w6.heap.size + 1 ≠ dg ∧ w6.heap.size + 1 ≠ r ∧ w6.heap.size + 1 ≠ b ∧ w6.heap.size + 1 ≠ qr
    omega
end Go.Proofs.YtgihdchgdejkhaaGreatDoor.D
