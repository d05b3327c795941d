import Derived.Test.YtgihdchgdejkhaaGreatDoorN2
namespace Go.Proofs.YtgihdchgdejkhaaGreatDoor.D
open Go.RowKit
open Go.Proofs.YtgihdchgdejkhaaGreatDoor.H (B64 Cp)
set_option linter.unusedVariables false

/-! ### DeriveTwins -/
/-- A world of the law in a variable. -/
structure Wl (w : World) (b : Nat) (wd en ea kn : Int) (a : Option Addr) (n cap : Nat) : Prop where
  c0 : Lies w ⟨b, 0, none⟩ (.int .i64 wd)
  c1 : Lies w ⟨b, 1, none⟩ (.int .i64 en)
  c2 : Lies w ⟨b, 2, none⟩ (.int .i64 ea)
  c3 : Lies w ⟨b, 3, none⟩ (.int .i64 kn)
  c4 : Lies w ⟨b, 4, none⟩ (.slice a n cap)
theorem Wl.but {S : Nat → Prop} {w w' : World} {b : Nat} {wd en ea kn : Int} {a : Option Addr} {n cap : Nat} (h : Wl w b wd en ea kn a n cap) (hb : But S w w') (hn : ¬ S b) : Wl w' b wd en ea kn a n cap := ⟨h.c0.but hb hn, h.c1.but hb hn, h.c2.but hb hn, h.c3.but hb hn, h.c4.but hb hn⟩
theorem Wl.later {w w' : World} {b : Nat} {wd en ea kn : Int} {a : Option Addr} {n cap : Nat} (h : Wl w b wd en ea kn a n cap) (hb : Below w.heap.size w w') : Wl w' b wd en ea kn a n cap := h.but (S := fun _ => False) (But.of hb) (fun h => h)
theorem Wl.mk_ (w : World) (wd en ea kn : Int) (a : Option Addr) (n cap : Nat) : Wl (w.alloc (Obj.cells #[.int .i64 wd, .int .i64 en, .int .i64 ea, .int .i64 kn, .slice a n cap] 24)) w.heap.size wd en ea kn a n cap :=
  ⟨⟨by simp [go_sem], by simp [go_sem]⟩, ⟨by simp [go_sem], by simp [go_sem]⟩, ⟨by simp [go_sem], by simp [go_sem]⟩, ⟨by simp [go_sem], by simp [go_sem]⟩, ⟨by simp [go_sem], by simp [go_sem]⟩⟩
theorem _root_.Go.Proofs.YtgihdchgdejkhaaGreatDoor.Lies.off {w : World} {b o o' : Nat} {v u : Value} (h : Lies w ⟨b, o, none⟩ v) (hne : o' ≠ o) : Lies (w.setCell ⟨b, o', none⟩ u) ⟨b, o, none⟩ v := h.other (fun e => hne (Addr.mk.inj e).2.1)
def set5w (w : World) (b : Nat) (wd en ea kn : Int) (a : Option Addr) (n cap : Nat) : World := ((((w.setCell ⟨b, 0, none⟩ (.int .i64 wd)).setCell ⟨b, 1, none⟩ (.int .i64 en)).setCell ⟨b, 2, none⟩ (.int .i64 ea)).setCell ⟨b, 3, none⟩ (.int .i64 kn)).setCell ⟨b, 4, none⟩ (.slice a n cap)
theorem Wl.set {w : World} {b : Nat} {wd en ea kn : Int} {a : Option Addr} {n cap : Nat} (h : Wl w b wd en ea kn a n cap) (wd' en' ea' kn' : Int) (a' : Option Addr) (n' cap' : Nat) : Wl (set5w w b wd' en' ea' kn' a' n' cap') b wd' en' ea' kn' a' n' cap' :=
  ⟨(((h.c0.put.off (by omega)).off (by omega)).off (by omega)).off (by omega), ((((h.c1.off (by omega)).put).off (by omega)).off (by omega)).off (by omega), ((((h.c2.off (by omega)).off (by omega)).put).off (by omega)).off (by omega), ((((h.c3.off (by omega)).off (by omega)).off (by omega)).put).off (by omega), ((((h.c4.off (by omega)).off (by omega)).off (by omega)).off (by omega)).put⟩
theorem set5w_but {S : Nat → Prop} {a w : World} (h : But S a w) {b : Nat} (hb : a.heap.size ≤ b) (wd en ea kn : Int) (x : Option Addr) (n cap : Nat) : But S a (set5w w b wd en ea kn x n cap) :=
  ((((h.put (p := ⟨b, 0, none⟩) hb _).put (p := ⟨b, 1, none⟩) hb _).put (p := ⟨b, 2, none⟩) hb _).put (p := ⟨b, 3, none⟩) hb _).put (p := ⟨b, 4, none⟩) hb _
theorem Below.ofBut {w w' : World} (h : But (fun _ => False) w w') : Below w.heap.size w w' := But.below (Below.refl _ _) h (fun _ h => h.elim)
theorem neqW (a b c d : Int) (w : World) : (binOp .neq 30 (.agg #[.int .u64 a, .int .u64 b]) (.agg #[.int .u64 c, .int .u64 d])).run Tryz.prog w = .ok (.bool (!wEq a b c d)) w := by
  unfold wEq
  by_cases h1 : a = c
  · subst h1
    by_cases h2 : b = d
    · subst h2
      simp [go_sem]
    · simp [go_sem, h2]
  · simp [go_sem, h1]
/-- The words that are gathered. -/
structure Tw (w W : World) (b0 b7 : Nat) (wd en ea kn : Int) (a : Option Addr) (k c : Nat) : Prop where
  v : Wl W b0 wd en ea kn a k c
  o7 : Box W b7 0 1
  o8 : Box W (b7 + 1) 0 0
  ow : Ow W (b7 + 2) 30 2 a k c (wvs (fun _ => 1) k)
  lo : w.heap.size ≤ b0 ∧ b0 < b7
  b : Below w.heap.size w W
def TwRel (w : World) (b0 b7 : Nat) (wd en ea kn : Int) (m : Nat) (t : Value) (W : World) : Prop :=
  ∃ (i : Nat) (a : Option Addr) (c : Nat), i ≤ m ∧ t = .int .i64 (i : Int) ∧ Hid (Tw w W b0 b7 wd en ea kn a (i + 1) c)
theorem wcs_one : wcs 1 = [.int .u64 0, .int .u64 1] := by kernel_rfl
theorem Gr.box {a a' : Option Addr} {w w' : World} {b : Nat} {x y : Int} (h : Box w b x y) (hg : Gr a a' w w') (hn : ¬ Blk a b) : Box w' b x y := h.but hg.but hn
theorem tw_step {w W : World} {b0 b7 : Nat} {wd en ea kn : Int} {a : Option Addr} {k c : Nat} (h : Tw w W b0 b7 wd en ea kn a k c) (hk : k ≤ 100) :
    ∃ a' c' w9, (Builtin.append_ #[22, 22] 22 #[.slice a k c, .slice (some ⟨W.heap.size, 0, none⟩) 1 1]).run Tryz.prog (W.alloc (Obj.cells #[.int .u64 0, .int .u64 1] 30)) = .ok (.slice a' (k + 1) c') w9 ∧ Lies w9 ⟨b0, 4, none⟩ (.slice a k c) ∧ Tw w (w9.setCell ⟨b0, 4, none⟩ (.slice a' (k + 1) c')) b0 b7 wd en ea kn a' (k + 1) c' := by
  have hcr := Cr.lit W 30 [.int .u64 0, .int .u64 1] (fun u hu => by
    simp only [List.mem_cons, List.not_mem_nil, or_false] at hu
    rcases hu with rfl | rfl <;> rfl)
  have hb7 : b7 + 1 < W.heap.size := World.block_lt_of_cell? _ _ h.o8.1
  have hB := below1 W (Obj.cells #[.int .u64 0, .int .u64 1] 30)
  obtain ⟨a', c', w9, hrun, hO, hG0⟩ := append_k 22 30 _ 2 16 Tryz.underlying22 info30 rfl (by omega) (by omega) (h.ow.later hB) hcr (by simp; omega) (by omega)
  have hG := hG0.pre hB
  have hO : Ow w9 (b7 + 2) 30 2 a' (k + 1) c' (wvs (fun _ => 1) k ++ [.int .u64 0, .int .u64 1]) := hO
  have hbl : ∀ j, Blk a j → b7 + 2 ≤ j := fun j hj => (h.ow.blk j hj).1
  have hl := h.lo
  have hv : Wl w9 b0 wd en ea kn a k c := h.v.but hG.but (fun e => by have := hbl _ e; omega)
  have hle : w.heap.size ≤ W.heap.size := h.b.size
  refine ⟨a', c', w9, hrun, hv.c4, ⟨hv.c0.off (by omega), hv.c1.off (by omega), hv.c2.off (by omega), hv.c3.off (by omega), hv.c4.put⟩, (Gr.box h.o7 hG (fun e => by have := hbl _ e; omega)).but (S := (· = b0)) ((But.refl _ _).own _ _) (fun e => by omega), (Gr.box h.o8 hG (fun e => by have := hbl _ e; omega)).but (S := (· = b0)) ((But.refl _ _).own _ _) (fun e => by omega), ?_, h.lo, ?_⟩
  · rw [wvs_succ, wcs_one]
    exact hO.but (S := (· = b0)) ((But.refl _ _).own _ _) (fun j hj e => by have := (hO.blk j hj).1; omega)
  · exact But.below (S := fun j => j = b0 ∨ Blk a j) h.b ((hG.but.mono (fun j hj => .inr hj)).setCell (p := ⟨b0, 4, none⟩) (.inl rfl) _) (fun j hj => by
      rcases hj with rfl | hj
      · exact hl.1
      · have := hbl j hj; omega)
/-- The words are there. -/
structure Tq (w W : World) (b0 b7 : Nat) (wd en ea kn : Int) (a : Option Addr) (k c : Nat) (f : Nat → Nat) : Prop where
  v : Wl W b0 wd en ea kn a k c
  o7 : Box W b7 0 1
  o8 : Box W (b7 + 1) 0 0
  ws : Ws W a k c f
  ab : ∀ j, Blk a j → b7 + 2 ≤ j
  lo : w.heap.size ≤ b0 ∧ b0 < b7
  b : Below w.heap.size w W
theorem tw_here {w W : World} {b0 b7 : Nat} {wd en ea kn : Int} {a : Option Addr} {k c : Nat} (h : Tw w W b0 b7 wd en ea kn a (k + 1) c) : ∃ g, a = some ⟨g, 0, none⟩ ∧ Ar W g (k + 1) (fun _ => 1) ∧ b7 + 2 ≤ g ∧ k + 1 ≤ c ∧ (∀ j, j < (k + 1) * 2 → ∃ u, Lies W ⟨g, j, none⟩ u) := by
  rcases h.ow.2 with ⟨_, h'⟩ | ⟨g, cp, cur, hv, _⟩
  · omega
  · simp only [Value.slice.injEq] at hv
    obtain ⟨rfl, _, rfl⟩ := hv
    have ho := h.ow
    obtain ⟨h1, h2, h3⟩ := ar_of ho
    refine ⟨g, rfl, h1, h2, h3, fun j hj => ?_⟩
    have hc := World.ownsRow.cellAt ho j hj
    have hl : j < (wvs (fun _ => 1) (k + 1)).length := by rw [wvs_length]; exact hj
    rw [List.getElem?_eq_getElem hl] at hc
    exact ⟨_, hc, World.ownsRow.frozenAt ho j⟩
theorem tq_none {w W : World} {b0 b7 : Nat} {wd en ea kn : Int} {a : Option Addr} {k c : Nat} (h : Tw w W b0 b7 wd en ea kn a (k + 1) c) (at_ : Nat) (ha : ¬ at_ < k) : Tq w W b0 b7 wd en ea kn a (k + 1) c (twW at_ k) := by
  obtain ⟨g, rfl, har, hg, hc, _⟩ := tw_here h
  refine ⟨h.v, h.o7, h.o8, Ws.at hc (twW_small _ _) (fun i hi => ?_), fun j hj => (h.ow.blk j hj).1, h.lo, h.b⟩
  have e : twW at_ k i = 1 := by unfold twW; rw [if_neg (by omega)]
  rw [e]
  have := har.at_ i hi
  simpa using this
theorem tq_some {w W : World} {b0 b7 g : Nat} {wd en ea kn : Int} {k c : Nat} (h : Tw w W b0 b7 wd en ea kn (some ⟨g, 0, none⟩) (k + 1) c) (at_ : Nat) (ha : at_ < k) : Tq w ((W.setCell ⟨g, (1 + at_) * 2, none⟩ (.int .u64 0)).setCell ⟨g, (1 + at_) * 2 + 1, none⟩ (.int .u64 0)) b0 b7 wd en ea kn (some ⟨g, 0, none⟩) (k + 1) c (twW at_ k) := by
  obtain ⟨g', e, har, hg, hc, _⟩ := tw_here h
  cases e
  have hl := h.lo
  have hB : But (· = g) W ((W.setCell ⟨g, (1 + at_) * 2, none⟩ (.int .u64 0)).setCell ⟨g, (1 + at_) * 2 + 1, none⟩ (.int .u64 0)) := ((But.refl _ _).own _ _).own _ _
  have hset := har.set (g := twW at_ k) (i := 1 + at_) (N := 0) (by omega) (fun j hj => by
    unfold twW
    by_cases e : j = 1 + at_
    · rw [if_pos ⟨ha, e⟩, if_pos e]
    · rw [if_neg (fun x => e x.2), if_neg e])
  refine ⟨h.v.but hB (fun e => by omega), h.o7.but hB (fun e => by omega), h.o8.but hB (fun e => by omega), Ws.at hc (twW_small _ _) (fun i hi => ?_), fun j hj => by obtain ⟨x, hx, rfl⟩ := hj; cases hx; exact hg, h.lo, ?_⟩
  · have z1 : hiI 0 = 0 := by simp [hiI]
    have z2 : loI 0 = 0 := by simp [loI]
    have := hset.at_ i hi
    simpa [z1, z2] using this
  · exact But.below h.b hB (fun j hj => by omega)
set_option maxRecDepth 100000 in
set_option maxHeartbeats 8000000 in
theorem twins_any {w : World} (hl : Laid w) (wd en ea kn : Int) {a : Option Addr} {n0 cap : Nat} {f : Nat → Nat} (h : Ws w a n0 cap f) (hn0 : n0 ≤ 9223372036854775807) (x y : Int) :
    Calls Tryz.prog 3 #[woV wd en ea kn a n0 cap, .int .i64 x, .int .i64 y] w fun e w' => e = .returned (.bool true) ∧ Below w.heap.size w w' := by
  obtain ⟨w0, hw0⟩ : ∃ w0, w0 = w.alloc (Obj.cells #[.int .i64 wd, .int .i64 en, .int .i64 ea, .int .i64 kn, .slice a n0 cap] 24) := ⟨_, rfl⟩
  have hB0 : Below w.heap.size w w0 := by rw [hw0]; exact below1 _ _
  have hv : Wl w0 w.heap.size wd en ea kn a n0 cap := by rw [hw0]; exact Wl.mk_ _ _ _ _ _ _ _ _
  have HHd := hid (head_any w0 (hl.later hB0))
  have HRt := hid (fun (U : World) (hU : Below w0.heap.size w0 U) => right_any wd en ea kn (h.later (below_call hB0 hU)) hn0)
  have k1 := hid (fun U => mod_below x 30 30 rfl U (by decide) (by decide))
  have k2 := hid (fun U => mod_below y 30 30 rfl U (by decide) (by decide))
  have HV : Hid (∀ U, Below w0.heap.size w0 U → Wl U w.heap.size wd en ea kn a n0 cap) := fun U hU => hv.later hU
  have HB0 := hid hB0
  have HL := hid hl
  have q1 : intoN wd 128 < 128 := intoN_lt _ (by decide)
  have q4 : intoN kn 65 < 65 := intoN_lt _ (by decide)
  have q5 : intoN x 30 < 30 := intoN_lt _ (by decide)
  have q6 : intoN y 30 < 30 := intoN_lt _ (by decide)
  generalize intoN wd 128 = m1 at *
  generalize intoN en 256 = m2 at *
  generalize intoN ea 256 = m3 at *
  generalize intoN kn 65 = m4 at *
  generalize intoN x 30 = at_ at *
  generalize intoN y 30 = many at *
  clear h hl hB0 hv
  unfold woV at HRt ⊢
  go_enter Tryz.func3, Tryz.ntmps3
  go_upto_region 1 with fail
  rw [← hw0]
  clear hw0
  go_upto_region 3 with (first | (go_at_call 6; refine HHd.out.mono ?_; rintro e w1 ⟨rfl, hb1⟩; have HB1 := hid hb1; obtain ⟨⟨x0, _⟩, ⟨x1, _⟩, ⟨x2, _⟩, ⟨x3, _⟩, ⟨x4, _⟩⟩ := HV.out w1 hb1; clear hb1))
  go_upto_region 4 with (first | (go_at_call 7; refine (HRt.out w1 HB1.out).mono ?_; rintro e w2 ⟨n, hn, _, hW, rfl, hb2⟩; have HB2 := hid (below_call HB1.out hb2); obtain ⟨⟨z0, f0⟩, ⟨z1, f1⟩, ⟨z2, f2⟩, ⟨z3, f3⟩, ⟨z4, f4⟩⟩ := HV.out w2 HB2.out; clear hb2 hW hn))
  obtain ⟨w3, hw3⟩ : ∃ w3, w3 = set5w w2 w.heap.size (1 + (m1 : Int)) (1 + (m2 : Int)) (1 + (m3 : Int)) (m4 : Int) a n cap := ⟨_, rfl⟩
  have HV3 : Hid (Wl w3 w.heap.size (1 + (m1 : Int)) (1 + (m2 : Int)) (1 + (m3 : Int)) (m4 : Int) a n cap) := by rw [hw3]; exact (HV.out w2 HB2.out).set _ _ _ _ _ _ _
  have HB3 : Hid (Below w.heap.size w w3) := by rw [hw3]; exact Below.ofBut (set5w_but (But.of (below_call HB0.out HB2.out)) (Nat.le_refl _) _ _ _ _ _ _ _)
  unfold set5w at hw3
  rw [← hw3]
  clear hw3 z0 z1 z2 z3 z4 f0 f1 f2 f3 f4 x0 x1 x2 x3 x4
  go_upto_region 5 with (first
    | (have hq := hb4; clear hq; go_at_call 8; refine (k2.out _).mono ?_; rintro e w5 ⟨rfl, hv⟩; have hb5 := hid (below_call hb4.out hv); clear hv)
    | (go_at_call 8; refine (k1.out _).mono ?_; rintro e w4 ⟨rfl, hv⟩; have hb4 := hid (below_call (Below.refl w3.heap.size w3) hv); clear hv))
  have HV5 := hid (HV3.out.later hb5.out)
  have HB5 := hid (below_call HB3.out hb5.out)
  clear HV HV3 HB0 HB1 HB2 HB3 hb4 hb5 HHd HRt k1 k2
  have hlt5 : w.heap.size < w5.heap.size := World.block_lt_of_cell? _ _ HV5.out.c0.1
  go_upto_region 6 with fail
  obtain ⟨w6, hw6⟩ : ∃ w6, w6 = (w5.alloc (Obj.cells #[.int .u64 0, .int .u64 1] 30)).alloc (Obj.cells #[.int .u64 0, .int .u64 0] 30) := ⟨_, rfl⟩
  have hB6 : Below w5.heap.size w5 w6 := by rw [hw6]; exact below2 _ _ _
  have ho7 : Box w6 w5.heap.size 0 1 := by rw [hw6]; exact (Box.new w5 0 1).later (below1 _ _)
  have ho8 : Box w6 (w5.heap.size + 1) 0 0 := by rw [hw6]; exact ⟨by simp [go_sem], by simp [go_sem]⟩
  have hs6 : w6.heap.size = w5.heap.size + 1 + 1 := by rw [hw6]; simp
  have hr6 := World.ownsRow_lit (base := w6.heap.size) (e := 30) (size := 2) w6 #[.int .u64 0, .int .u64 1] 1 (Nat.le_refl _) (by decide) (by simp)
  obtain ⟨w7, hw7⟩ : ∃ w7, w7 = w6.alloc (Obj.cells #[.int .u64 0, .int .u64 1] 30) := ⟨_, rfl⟩
  rw [← hw7] at hr6
  have hB7 : Below w6.heap.size w6 w7 := by rw [hw7]; exact below1 _ _
  have hv7 := (HV5.out.later hB6).later hB7
  have z4 : (w6.alloc (Obj.cells #[.int .u64 0, .int .u64 1] 30)).cell? ⟨w.heap.size, 4, none⟩ = some (.slice a n cap) := by rw [← hw7]; exact hv7.c4.1
  have f4 : (w6.alloc (Obj.cells #[.int .u64 0, .int .u64 1] 30)).frozen? ⟨w.heap.size, 4, none⟩ = false := by rw [← hw7]; exact hv7.c4.2
  have x7 := ho7.1
  have x8 := ho7.2
  have HT : Hid (Tw w (w7.setCell ⟨w.heap.size, 4, none⟩ (.slice (some ⟨w6.heap.size, 0, none⟩) 1 1)) w.heap.size w5.heap.size (1 + (m1 : Int)) (1 + (m2 : Int)) (1 + (m3 : Int)) (m4 : Int) (some ⟨w6.heap.size, 0, none⟩) 1 1) := by
    refine ⟨⟨hv7.c0.off (by omega), hv7.c1.off (by omega), hv7.c2.off (by omega), hv7.c3.off (by omega), hv7.c4.put⟩, (ho7.later hB7).but (S := (· = w.heap.size)) ((But.refl _ _).own _ _) (fun e => by omega), (ho8.later hB7).but (S := (· = w.heap.size)) ((But.refl _ _).own _ _) (fun e => by omega), ?_, ⟨Nat.le_refl _, hlt5⟩, ?_⟩
    · have h1 : Ow w7 w6.heap.size 30 2 (some ⟨w6.heap.size, 0, none⟩) 1 1 [.int .u64 0, .int .u64 1] := hr6
      have h1 := h1.mono (b := w5.heap.size + 2) (by omega)
      exact h1.but (S := (· = w.heap.size)) ((But.refl _ _).own _ _) (fun j hj e => by have := (h1.blk j hj).1; omega)
    · exact But.below (S := (· = w.heap.size)) (below_call HB5.out (below_call hB6 hB7)) ((But.refl _ _).own _ _) (fun k hk => by omega)
  rw [hw7] at HT
  rw [← hw6]
  clear hw6 hw7 hB6 ho7 ho8 hr6 hB7 hv7 hlt5 hs6 HV5 HB5
  go_upto_region 7 with fail
  obtain ⟨w8, hw8⟩ : ∃ w8, w8 = (w6.alloc (Obj.cells #[.int .u64 0, .int .u64 1] 30)).setCell ⟨w.heap.size, 4, none⟩ (.slice (some ⟨w6.heap.size, 0, none⟩) 1 1) := ⟨_, rfl⟩
  rw [← hw8] at HT ⊢
  clear hw8 z4 f4 x7 x8
  generalize w5.heap.size = b7 at *
  generalize w6.heap.size = b9 at *
  go_wp2
  go_loopw [9] (TwRel w w.heap.size b7 (1 + (m1 : Int)) (1 + (m2 : Int)) (1 + (m3 : Int)) (m4 : Int) many) (fun t _ => many - (intOf t).toNat)
  case atStart => exact ⟨0, _, _, Nat.zero_le _, rfl, HT⟩
  case round =>
    obtain ⟨i, a1, c1, hi, rfl, hT⟩ := hrel
    by_cases hlt : i < many
    · obtain ⟨a2, c2, w9, hrun, hl9, hT9⟩ := tw_step hT.out (by omega)
      have HRUN := hid hrun
      have HT9 := hid hT9
      have z4 := hT.out.v.c4.1
      have x7 := hT.out.o7.1
      have x8 := hT.out.o7.2
      obtain ⟨z9, f9⟩ := hl9
      clear hrun hT9 hT HT
      go_wp2_with (first | (at_builtin; refine wpList_append_known rfl _ _ 22 rfl _ _ rfl rfl _ w9 HRUN.out ?_))
      exact ⟨⟨i + 1, a2, c2, by omega, by go_num, HT9⟩, by simp [intOf]; omega⟩
    · obtain rfl : many = i := by omega
      clear HT
      go_upto_if 43 with fail
      go_cut [] (fun W => Hid (∃ a2 c2, Tq w W w.heap.size b7 (1 + (m1 : Int)) (1 + (m2 : Int)) (1 + (m3 : Int)) (m4 : Int) a2 (many + 1) c2 (twW at_ many)))
      case first =>
        by_cases hat : at_ < many
        · have hd : decide ((at_ : Int) < (many : Int)) = true := decide_eq_true (by omega)
          have hd2 : (at_ : Int) < (many : Int) := by omega
          obtain ⟨g, rfl, har, hg, hc, hfr⟩ := tw_here hT.out
          have z4 := hT.out.v.c4.1
          have x7 := hT.out.o8.1
          have x8 := hT.out.o8.2
          obtain ⟨u0, y0, g0⟩ := hfr ((1 + at_) * 2) (by omega)
          obtain ⟨u1, y1, g1⟩ := hfr ((1 + at_) * 2 + 1) (by omega)
          have HTs := hid (tq_some hT.out at_ hat)
          have gw : IntKind.i64.wrap (1 + (at_ : Int)) = 1 + (at_ : Int) := by rw [IntKind.wrap_i64]; omega
          have gi : (1 + (at_ : Int)).toNat = 1 + at_ := by omega
          have gl : ¬ (1 + (at_ : Int) < 0) := by omega
          have gm : 1 + (at_ : Int) < ((many + 1 : Nat) : Int) := by omega
          clear hT har hg hc hfr
          go_wp2
          go_meet
          exact ⟨_, _, HTs.out⟩
        · have hd : decide ((at_ : Int) < (many : Int)) = false := decide_eq_false (by omega)
          have hd2 : ¬ (at_ : Int) < (many : Int) := by omega
          have HTs := hid (tq_none hT.out at_ hat)
          clear hT
          go_wp2
          go_meet
          exact ⟨_, _, HTs.out⟩
      case rest =>
      clear hT
      rename World => wq
      obtain ⟨a2, c2, hq⟩ := hcut.out
      have HQ := hid hq
      obtain ⟨y1, g1⟩ := hq.v.c1
      obtain ⟨y2, g2⟩ := hq.v.c2
      clear hq hcut
      go_upto_region 14 with fail
      obtain ⟨wp, hwp⟩ : ∃ wp, wp = (wq.setCell ⟨w.heap.size, 1, none⟩ (.int .i64 9)).setCell ⟨w.heap.size, 2, none⟩ (.int .i64 9) := ⟨_, rfl⟩
      have hBp : But (· = w.heap.size) wq wp := by rw [hwp]; exact ((But.refl _ _).own _ _).own _ _
      have hbp : Below w.heap.size w wp := But.below HQ.out.b hBp (fun k hk => by omega)
      have hlo := HQ.out.lo
      obtain ⟨x0, x1, x2, x3, x4⟩ : Wl wp w.heap.size (1 + (m1 : Int)) 9 9 (m4 : Int) a2 (many + 1) c2 := by
        rw [hwp]
        exact ⟨(HQ.out.v.c0.off (by omega)).off (by omega), HQ.out.v.c1.put.off (by omega), (HQ.out.v.c2.off (by omega)).put, (HQ.out.v.c3.off (by omega)).off (by omega), (HQ.out.v.c4.off (by omega)).off (by omega)⟩
      have x0 := x0.1
      have x1 := x1.1
      have x2 := x2.1
      have x3 := x3.1
      have x4 := x4.1
      have HO7 := hid (HQ.out.o7.but hBp (fun e => by omega))
      have HO8 := hid (HQ.out.o8.but hBp (fun e => by omega))
      have HBp := hid hbp
      have HMd := hid (made_any (HL.out.later hbp) (1 + (m1 : Int)) 9 9 m4 (HQ.out.ws.butN hBp (fun _ x hx e => by have := HQ.out.ab _ ⟨x, hx, rfl⟩; omega)) (by omega) (by omega) (by omega) (by decide) (by decide) (by decide) (by decide) (by omega))
      have HL7 : Hid (b7 + 1 < wp.heap.size) := World.block_lt_of_cell? _ _ HO8.out.1
      unfold woV at HMd
      rw [← hwp]
      clear hwp hBp hbp hlo y1 g1 y2 g2 HQ
      go_upto_region 17 with (first
        | (go_at_call 9; refine HMd.out.mono ?_; rintro e v0 ⟨H, K, sb, rb, rfl, hP, hT, hD, htp, _, hwr, hm1, hall, ⟨hsb, _⟩, _, hb0⟩; have HP : Hid (H.toPar = TP (1 + (m1 : Int)) at_ many) := hP; have HT0 : Hid (Tri v0 H (s0 9)) := hT; have HTp := hid htp; have HWr := hid (fun k (hk : H.Wr k) => And.intro (hwr k hk) (hall k (Hd.wr_all hk))); have HSb := hid hsb; have HBz := hid hb0; clear hP hT hD htp hwr hm1 hall hsb hb0))
      have HZ : Hid (∀ k, H.Wr k → k < v0.heap.size) := fun k hk => HT0.out.lt k hk
      have HTo0 : Hid (But H.Wr v0 v0) := But.refl _ _
      have h1m : 1 ≤ 1 + (m1 : Int) := by omega
      have HR1 : Hid (∀ U, Below v0.heap.size v0 U → Calls Tryz.prog 10 #[.pointer (some ⟨H.g, 0, none⟩), .pointer (some ⟨H.A.g, 0, none⟩), .pointer (some ⟨H.qg, 0, none⟩), .int .i64 5] U fun e w' => e = .returned (.tuple #[.agg #[.int .i64 5, .int .u64 0, .int .u64 1], .int .i64 0]) ∧ Tri w' H y1 ∧ But H.Wr U w') := fun U hU => by
        have := root_any (HT0.out.later hU) (by rw [HP.out]; exact tp_fit h1m _ _) 5 (by decide)
        rw [HP.out, tw_root h1m] at this
        exact this
      have HS1 : Hid (∀ U, But H.Wr v0 U → (U.cell? ⟨sb, 0, none⟩ = some (.pointer (some ⟨H.g, 0, none⟩)) ∧ U.cell? ⟨sb, 1, none⟩ = some (.pointer (some ⟨H.A.g, 0, none⟩)) ∧ U.cell? ⟨sb, 2, none⟩ = some (.pointer (some ⟨H.qg, 0, none⟩))) ∧ But H.Wr v0 U) := fun U hU => by
        obtain ⟨q0, q1, q2⟩ := HTp.out.but hU (fun e => by have := (HWr.out _ e).2; have := HSb.out; omega)
        exact ⟨⟨q0, q1, q2⟩, hU⟩
      go_cut [12, 13] (fun s3 s4 W => ∃ b, s3 = .pointer (some ⟨b, 0, none⟩) ∧ s4 = .int .i64 (0) ∧ Hid (Lv v0 H W b ((5, 0, 1)) (y1)))
      case first =>
        go_region_held3 (fun U => (U.cell? ⟨sb, 0, none⟩ = some (.pointer (some ⟨H.g, 0, none⟩)) ∧ U.cell? ⟨sb, 1, none⟩ = some (.pointer (some ⟨H.A.g, 0, none⟩)) ∧ U.cell? ⟨sb, 2, none⟩ = some (.pointer (some ⟨H.qg, 0, none⟩))) ∧ But H.Wr v0 U) (first | exact HS1.out _ HBt.out | exact HS1.out _ (But.of (Below.refl _ _).drew) | exact HS1.out _ (But.of (below1 _ _).drew) | exact HS1.out _ (But.of (below1 _ _)) | exact HS1.out _ (HBt.out.alloc _) | exact HS1.out _ (((HBt.out.put (Nat.le_refl _) _).put (Nat.le_refl _) _).put (Nat.le_refl _) _)) (first
          | (go_at_call 10; refine (HR1.out _ (below1 _ _).drew).mono ?_; rintro e u_ ⟨rfl, ht, hb⟩; have HTt := hid ht; have HBt := hid ((But.of (S := H.Wr) (below1 v0 (Obj.cells #[.int .i64 0, .int .u64 0, .int .u64 0] 36)).drew).trans hb); have hzc := (Zc.mk_ v0).drew_.but hb (fun e => by have := HZ.out _ e; have := HTo0.out.size; omega); have HZc := hid hzc; obtain ⟨⟨z0, f0⟩, ⟨z1, f1⟩, ⟨z2, f2⟩⟩ := hzc; clear ht hb)
          | (go_at_call 10; refine (HR1.out _ (Below.refl _ _).drew).mono ?_; rintro e u_ ⟨rfl, ht, hb⟩; have HTt := hid ht; have HBt := hid ((But.of (S := H.Wr) (Below.refl v0.heap.size v0).drew).trans hb); clear ht hb))
        all_goals (try go_wp2)
        all_goals go_meet
        all_goals (first | exact ⟨_, rfl, rfl, Lv.first HT0.out HTt.out HBt.out HZc.out ((5, 0, 1))⟩ | exact ⟨_, rfl, rfl, Lv.then_ HTt.out HBt.out ((5, 0, 1))⟩)
      case rest =>
      rename World => v1
      obtain ⟨b1, rfl, rfl, HLv1⟩ := hcut
      have HT1 := hid HLv1.out.tri
      have HBv := hid HLv1.out.but
      have HTo1 : Hid (But H.Wr v0 v1) := HTo0.out.trans HBv.out
      have HCb1 : Hid (∀ U, But H.Wr v1 U → Cw U b1 (5, 0, 1)) := fun U hU => HLv1.out.cw.but hU (fun e => by have := HZ.out _ e; have := HLv1.out.lo; omega)
      clear HLv1 HBv HR1 HS1 HT0
      obtain ⟨R, hR⟩ : ∃ R, R = childA (TP (1 + (m1 : Int)) at_ many) y1 (5, 0, 1) 31 := ⟨_, rfl⟩
      have HR2 : Hid (∀ U, Below v1.heap.size v1 U → Calls Tryz.prog 11 #[.pointer (some ⟨H.g, 0, none⟩), .pointer (some ⟨H.A.g, 0, none⟩), .pointer (some ⟨H.qg, 0, none⟩), .agg #[.int .i64 5, .int .u64 0, .int .u64 1], .int .i64 31] U fun e w' => e = .returned (.tuple #[.agg #[.int .i64 R.c.1, .int .u64 (R.c.2.1 : Int), .int .u64 (R.c.2.2 : Int)], .int .i64 R.code]) ∧ Tri w' H R.s ∧ But H.Wr U w') := fun U hU => by
        have := dchild_any (HT1.out.later hU) (by rw [HP.out]; exact tw_fit1 h1m _ _) (5, 0, 1) 31 (by decide) (by decide)
        rw [HP.out, ← hR] at this
        exact this
      have HRR := hid hR
      clear hR
      have HS2 : Hid (∀ U, But H.Wr v1 U → (U.cell? ⟨sb, 0, none⟩ = some (.pointer (some ⟨H.g, 0, none⟩)) ∧ U.cell? ⟨sb, 1, none⟩ = some (.pointer (some ⟨H.A.g, 0, none⟩)) ∧ U.cell? ⟨sb, 2, none⟩ = some (.pointer (some ⟨H.qg, 0, none⟩)) ∧ U.cell? ⟨b1, 0, none⟩ = some (.int .i64 5) ∧ U.cell? ⟨b1, 1, none⟩ = some (.int .u64 0) ∧ U.cell? ⟨b1, 2, none⟩ = some (.int .u64 1)) ∧ But H.Wr v1 U) := fun U hU => by
        obtain ⟨q0, q1, q2⟩ := HTp.out.but (HTo1.out.trans hU) (fun e => by have := (HWr.out _ e).2; have := HSb.out; omega)
        obtain ⟨p0, p1, p2⟩ := HCb1.out U hU
        exact ⟨⟨q0, q1, q2, p0, p1, p2⟩, hU⟩
      go_upto_region 18 with fail
      go_cut [14, 15] (fun s3 s4 W => ∃ b, s3 = .pointer (some ⟨b, 0, none⟩) ∧ s4 = .int .i64 (R.code) ∧ Hid (Lv v1 H W b (R.c) (R.s)))
      case first =>
        go_region_held3 (fun U => (U.cell? ⟨sb, 0, none⟩ = some (.pointer (some ⟨H.g, 0, none⟩)) ∧ U.cell? ⟨sb, 1, none⟩ = some (.pointer (some ⟨H.A.g, 0, none⟩)) ∧ U.cell? ⟨sb, 2, none⟩ = some (.pointer (some ⟨H.qg, 0, none⟩)) ∧ U.cell? ⟨b1, 0, none⟩ = some (.int .i64 5) ∧ U.cell? ⟨b1, 1, none⟩ = some (.int .u64 0) ∧ U.cell? ⟨b1, 2, none⟩ = some (.int .u64 1)) ∧ But H.Wr v1 U) (first | exact HS2.out _ HBt.out | exact HS2.out _ (But.of (Below.refl _ _).drew) | exact HS2.out _ (But.of (below1 _ _).drew) | exact HS2.out _ (But.of (below1 _ _)) | exact HS2.out _ (HBt.out.alloc _) | exact HS2.out _ (((HBt.out.put (Nat.le_refl _) _).put (Nat.le_refl _) _).put (Nat.le_refl _) _)) (first
          | (go_at_call 11; refine (HR2.out _ (below1 _ _).drew).mono ?_; rintro e u_ ⟨rfl, ht, hb⟩; have HTt := hid ht; have HBt := hid ((But.of (S := H.Wr) (below1 v1 (Obj.cells #[.int .i64 0, .int .u64 0, .int .u64 0] 36)).drew).trans hb); have hzc := (Zc.mk_ v1).drew_.but hb (fun e => by have := HZ.out _ e; have := HTo1.out.size; omega); have HZc := hid hzc; obtain ⟨⟨z0, f0⟩, ⟨z1, f1⟩, ⟨z2, f2⟩⟩ := hzc; clear ht hb)
          | (go_at_call 11; refine (HR2.out _ (Below.refl _ _).drew).mono ?_; rintro e u_ ⟨rfl, ht, hb⟩; have HTt := hid ht; have HBt := hid ((But.of (S := H.Wr) (Below.refl v1.heap.size v1).drew).trans hb); clear ht hb))
        all_goals (try go_wp2)
        all_goals go_meet
        all_goals (first | exact ⟨_, rfl, rfl, Lv.first HT1.out HTt.out HBt.out HZc.out (R.c)⟩ | exact ⟨_, rfl, rfl, Lv.then_ HTt.out HBt.out (R.c)⟩)
      case rest =>
      rename World => v2
      obtain ⟨b2, rfl, rfl, HLv2⟩ := hcut
      have HT2 := hid HLv2.out.tri
      have HBv := hid HLv2.out.but
      have HTo2 : Hid (But H.Wr v0 v2) := HTo1.out.trans HBv.out
      obtain ⟨p0, p1, p2⟩ := HCb1.out v2 HBv.out
      obtain ⟨r0, r1, r2⟩ := HLv2.out.cw
      obtain ⟨q0, q1, q2⟩ := HTp.out.but HTo2.out (fun e => by have := (HWr.out _ e).2; have := HSb.out; omega)
      have hbo : ∀ k, k < wp.heap.size → ¬ H.Wr k := fun k hk e => by have := (HWr.out _ e).1; omega
      obtain ⟨o70, o71⟩ := (HO7.out.later HBz.out).but HTo2.out (hbo _ (by have := HL7.out; omega))
      obtain ⟨o80, o81⟩ := (HO8.out.later HBz.out).but HTo2.out (hbo _ HL7.out)
      have HTk := hid (taken_any _ _ _ _ _ _ HT2.out.d)
      have HOf := hid (Q.of_any HT2.out.qu 5 (by decide))
      have HFin : Hid (Below w.heap.size w v2) := But.below (below_call HBp.out HBz.out) HTo2.out (fun k hk => Nat.le_trans HBp.out.size (HWr.out k hk).1)
      have heq := Go.Proofs.YtgihdchgdejkhaaGreatDoor.H.eqlC
      have hne := neqW
      clear HS2 HR2 HLv2 HBv HTo1 HTo2 HCb1 HT1 HT2 HO7 HO8 HL7 hbo HMd HZ HWr HTp HSb HBz HBp HP
      rcases tw_child h1m at_ many with ⟨c1, c2, s, hs, ht⟩ | ⟨c1, c2, s, hs, ht, hk⟩ | ⟨c1, c2, s, hs, ht, hk⟩
      · rw [← HRR.out] at hs
        subst hs
        rw [ht] at HTk
        have d1 : decide ((at_ : Int) < (many : Int)) = true := decide_eq_true (by omega)
        have d2 : decide ((at_ : Int) < 9) = true := decide_eq_true (by omega)
        rw [show ((at_ + 2 : Nat) : Int) = (at_ : Int) + 2 by omega] at HTk
        have g1 : IntKind.i64.wrap ((at_ : Int) + 2 - 1) = (at_ : Int) + 1 := by rw [IntKind.wrap_i64]; omega
        have g2 : IntKind.i64.wrap ((at_ : Int) + 1) = (at_ : Int) + 1 := by rw [IntKind.wrap_i64]; omega
        clear HOf ht
        go_wp2_with (first
          | (go_at_call 12; refine HTk.out.mono ?_; rintro e w9 ⟨rfl, hw9⟩; obtain rfl := hw9.symm; clear hw9))
        go_ret
        exact ⟨rfl, HFin.out⟩
      · rw [← HRR.out] at hs
        subst hs
        rw [ht] at HTk
        rw [hk] at HOf
        have d1 : ¬ ((at_ : Int) < (many : Int) ∧ (at_ : Int) < 9) := by omega
        have d3 : decide ((many : Int) ≥ 9) = true := decide_eq_true (by omega)
        have d4 : 9 ≤ (many : Int) := by omega
        clear ht hk
        by_cases d5 : (at_ : Int) < (many : Int)
        · have d6 : ¬ (at_ : Int) < 9 := fun x => d1 ⟨d5, x⟩
          clear d1 c1
          go_wp2_with (first
            | (go_at_call 12; refine HTk.out.mono ?_; rintro e w9 ⟨rfl, hw9⟩; obtain rfl := hw9.symm; clear hw9)
            | (go_at_call 13; refine HOf.out.mono ?_; rintro e w9 ⟨rfl, hw9⟩; obtain rfl := hw9.symm; clear hw9))
          go_ret
          exact ⟨rfl, HFin.out⟩
        · clear d1 c1
          go_wp2_with (first
            | (go_at_call 12; refine HTk.out.mono ?_; rintro e w9 ⟨rfl, hw9⟩; obtain rfl := hw9.symm; clear hw9)
            | (go_at_call 13; refine HOf.out.mono ?_; rintro e w9 ⟨rfl, hw9⟩; obtain rfl := hw9.symm; clear hw9))
          go_ret
          exact ⟨rfl, HFin.out⟩
      · rw [← HRR.out] at hs
        subst hs
        rw [ht] at HTk
        rw [hk] at HOf
        have d1 : ¬ ((at_ : Int) < (many : Int) ∧ (at_ : Int) < 9) := by omega
        have d3 : decide ((many : Int) ≥ 9) = false := decide_eq_false (by omega)
        have d4 : ¬ 9 ≤ (many : Int) := by omega
        rw [show ((many + 1 : Nat) : Int) = (many : Int) + 1 by omega] at HTk
        have g1 : IntKind.i64.wrap ((many : Int) + 1 - 1) = (many : Int) := by rw [IntKind.wrap_i64]; omega
        have d5 : ¬ (at_ : Int) < (many : Int) := by omega
        clear ht hk d1 c1
        go_wp2_with (first
          | (go_at_call 12; refine HTk.out.mono ?_; rintro e w9 ⟨rfl, hw9⟩; obtain rfl := hw9.symm; clear hw9)
          | (go_at_call 13; refine HOf.out.mono ?_; rintro e w9 ⟨rfl, hw9⟩; obtain rfl := hw9.symm; clear hw9))
        go_ret
        exact ⟨rfl, HFin.out⟩
end Go.Proofs.YtgihdchgdejkhaaGreatDoor.D
