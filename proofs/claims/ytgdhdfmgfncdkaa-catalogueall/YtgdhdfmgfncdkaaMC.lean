import Derived.Test.YtgdhdfmgfncdkaaMB
namespace Go.Proofs.Ytgdhdfmgfncdkaa
open Go.RowKit Go.Shelf H
set_option linter.unusedVariables false

/-! ### A pair -/
structure Pr (w : World) (A : Ad) (kn mo r b : Nat) (X : List Tk) (l : Fo) (wh : Int → Int) (ev : Nat) : Prop where
  c : Cat w A kn mo X l
  f : Rf w r b mo X l wh ev
  t : Tim l wh ev
  n : ∀ k, A.All k → k ≠ r ∧ k ≠ b
def PS (A : Ad) (r b k : Nat) : Prop := A.All k ∨ k = r ∨ k = b
theorem Pr.later {w w' : World} {A : Ad} {kn mo r b : Nat} {X : List Tk} {l : Fo} {wh : Int → Int} {ev : Nat} (h : Pr w A kn mo r b X l wh ev) (hb : Below w.heap.size w w') : Pr w' A kn mo r b X l wh ev := ⟨h.c.later hb, h.f.later hb, h.t, h.n⟩
theorem Pr.but {S : Nat → Prop} {w w' : World} {A : Ad} {kn mo r b : Nat} {X : List Tk} {l : Fo} {wh : Int → Int} {ev : Nat} (h : Pr w A kn mo r b X l wh ev) (hb : But S w w') (hn : ∀ k, PS A r b k → ¬ S k) : Pr w' A kn mo r b X l wh ev := ⟨h.c.but hb (fun k hk => hn k (.inl hk)), h.f.but hb (hn r (.inr (.inl rfl))) (hn b (.inr (.inr rfl))), h.t, h.n⟩
theorem Pr.lt {w : World} {A : Ad} {kn mo r b : Nat} {X : List Tk} {l : Fo} {wh : Int → Int} {ev : Nat} (h : Pr w A kn mo r b X l wh ev) : ∀ k, PS A r b k → k < w.heap.size := by
  rintro k (hk | rfl | rfl)
  · exact h.c.lt k hk
  · exact h.f.ltr
  · exact h.f.ltb
/-- Behind a call of both. -/
def Left (w : World) (A : Ad) (kn mo r b : Nat) (ev : Nat) (w' : World) : Prop := ∃ X l wh ev', Pr w' A kn mo r b X l wh ev' ∧ ev' ≤ ev + 1 ∧ But (PS A r b) w w'
theorem Pr.left {w w' : World} {A : Ad} {kn mo r b : Nat} {X : List Tk} {l : Fo} {wh : Int → Int} {ev : Nat} (h : Pr w A kn mo r b X l wh ev) (hb : Below w.heap.size w w') : Left w A kn mo r b ev w' := ⟨X, l, wh, ev, h.later hb, by omega, But.of hb⟩
/-- The boxes of step. -/
structure Bx (W : World) (p q g r : Nat) (s : Sp) : Prop where
  p0 : W.cell? ⟨p, 0, none⟩ = some (.pointer (some ⟨g, 0, none⟩))
  p1 : W.cell? ⟨p, 1, none⟩ = some (.pointer (some ⟨r, 0, none⟩))
  sb : Sb W q 0 s
theorem Bx.but {S : Nat → Prop} {w w' : World} {p q g r : Nat} {s : Sp} (h : Bx w p q g r s) (hb : But S w w') (h1 : ¬ S p) (h2 : ¬ S q) : Bx w' p q g r s := ⟨cell_but hb h.p0 h1, cell_but hb h.p1 h1, h.sb.but hb h2⟩
theorem Bx.later {w w' : World} {p q g r : Nat} {s : Sp} (h : Bx w p q g r s) (hb : Below w.heap.size w w') : Bx w' p q g r s := h.but (S := fun _ => False) (But.of hb) (fun h => h) (fun h => h)
theorem Bx.new (w : World) (g r : Nat) (s : Sp) : Bx ((w.alloc (Obj.cells #[.pointer (some ⟨g, 0, none⟩), .pointer (some ⟨r, 0, none⟩)] 61)).alloc (Obj.cells #[.bool s.sec, .int .i64 s.kd, .int .i64 s.n, .int .i64 s.c.1, .int .u64 (s.c.2.1 : Int), .int .u64 (s.c.2.2 : Int), .int .i64 s.r] 63)) w.heap.size (w.heap.size + 1) g r s := by
  refine ⟨by simp [go_sem], by simp [go_sem], ?_⟩
  have := Sb.new (w.alloc (Obj.cells #[.pointer (some ⟨g, 0, none⟩), .pointer (some ⟨r, 0, none⟩)] 61)) s
  have e : (w.alloc (Obj.cells #[.pointer (some ⟨g, 0, none⟩), .pointer (some ⟨r, 0, none⟩)] 61)).heap.size = w.heap.size + 1 := by simp
  rw [e] at this
  exact this
def stV (s : Sp) : Value := .agg #[.bool s.sec, .int .i64 s.kd, .int .i64 s.n, .int .i64 s.c.1, .int .u64 (s.c.2.1 : Int), .int .u64 (s.c.2.2 : Int), .int .i64 s.r]
def prV (g r : Nat) : Value := .agg #[.pointer (some ⟨g, 0, none⟩), .pointer (some ⟨r, 0, none⟩)]
set_option maxRecDepth 100000 in
set_option maxHeartbeats 4000000 in
theorem step_root {w : World} {A : Ad} {kn mo r b : Nat} {X : List Tk} {l : Fo} {wh : Int → Int} {ev : Nat} (h : Pr w A kn mo r b X l wh ev) (sec : Bool) (sn so : Int) (shi slo : Nat) (sr : Int) (hok : shi < B64 ∧ slo < B64) (he : ev < 9223372036854775807) :
    Calls Try.prog 21 #[prV A.g r, stV ⟨sec, 0, sn, (so, shi, slo), sr⟩] w fun e w' => e = .returned (.bool true) ∧ Left w A kn mo r b ev w' := by
  obtain ⟨W, hW⟩ : ∃ W, W = (w.alloc (Obj.cells #[.pointer (some ⟨A.g, 0, none⟩), .pointer (some ⟨r, 0, none⟩)] 61)).alloc (Obj.cells #[.bool sec, .int .i64 0, .int .i64 sn, .int .i64 so, .int .u64 (shi : Int), .int .u64 (slo : Int), .int .i64 sr] 63) := ⟨_, rfl⟩
  have hBW : Below w.heap.size w W := by rw [hW]; exact below_call (below1 _ _) (below1 _ _)
  have hBx : Bx W w.heap.size (w.heap.size + 1) A.g r ⟨sec, 0, sn, (so, shi, slo), sr⟩ := by rw [hW]; exact Bx.new w A.g r ⟨sec, 0, sn, (so, shi, slo), sr⟩
  have HW := hid (h.later hBW)
  have HBW := hid hBW
  have HBx := hid hBx
  have hns : ¬ PS A r b w.heap.size := fun e => by have := h.lt _ e; omega
  have hns2 : ¬ PS A r b (w.heap.size + 1) := fun e => by have := h.lt _ e; omega
  obtain ⟨p0, p1, s0, s1, s2, s3, s4, s5, s6⟩ := hBx
  simp only [Nat.zero_add] at s0 s1 s2 s3 s4 s5 s6
  have hro := hid (croot_of HW.out.c (so, shi, slo) sr hok)
  have hrr : Hid (∀ W2, But A.Wr W W2 → Calls Try.prog 36 #[.pointer (some ⟨r, 0, none⟩), .agg #[.int .i64 so, .int .u64 (shi : Int), .int .u64 (slo : Int)], .int .i64 sr] W2 (RDone W2 r b mo (rootR mo X l (so, shi, slo) sr) wh ev)) := fun W2 hW2 => by
    have hf : Rf W2 r b mo X l wh ev := HW.out.f.but hW2 (fun e => (h.n r (.inr (.inr e))).1 rfl) (fun e => (h.n b (.inr (.inr e))).2 rfl)
    exact rroot_any hf HW.out.c.inv h.t he (so, shi, slo) sr hok
  have HN := hid h.n
  generalize rootR mo X l (so, shi, slo) sr = R at hro hrr
  unfold stV prV
  simp only
  clear h hBW
  go_enter Try.func21, Try.ntmps21
  go_upto_region 1 with fail
  rw [← hW]
  clear hW
  go_upto_region 4 with (first | (go_at_call 23; refine hro.out.mono ?_; rintro e w2 ⟨rfl, hc2, hb2⟩; have HC2 := hid hc2; have HB2 := hid hb2; clear hc2 hb2))
  have hrr2 := hid (hrr.out w2 HB2.out)
  obtain ⟨q0, q1, t0, t1, t2, t3, t4, t5, t6⟩ := HBx.out.but HB2.out (fun e => hns (.inl (.inr (.inr e)))) (fun e => hns2 (.inl (.inr (.inr e))))
  simp only [Nat.zero_add] at t0 t1 t2 t3 t4 t5 t6
  clear p0 p1 s0 s1 s2 s3 s4 s5 s6
  go_upto_region 5 with (first | (go_at_call 36; refine hrr2.out.mono ?_; rintro e w3 ⟨rfl, ⟨wh', ev', hf3, ht3, he3⟩, hb3⟩; have HF3 := hid hf3; have HT3 := hid ht3; have HB3 := hid hb3; clear hf3 ht3 hb3))
  go_wp2
  go_ret
  exact ⟨rfl, R.X, R.l, wh', ev', ⟨HC2.out.but HB3.out (fun k hk e => by rcases e with rfl | rfl; exact (HN.out _ hk).1 rfl; exact (HN.out _ hk).2 rfl), HF3.out, HT3.out, HN.out⟩, he3, ((But.of HBW.out).trans (HB2.out.mono (fun k hk => .inl (.inr (.inr hk))))).trans (HB3.out.mono (fun k hk => .inr hk))⟩
set_option maxRecDepth 100000 in
set_option maxHeartbeats 4000000 in
theorem step_child {w : World} {A : Ad} {kn mo r b : Nat} {X : List Tk} {l : Fo} {wh : Int → Int} {ev : Nat} (h : Pr w A kn mo r b X l wh ev) (sec : Bool) (sn so : Int) (shi slo : Nat) (sr : Int) (hok : shi < B64 ∧ slo < B64) (he : ev < 9223372036854775807) :
    Calls Try.prog 21 #[prV A.g r, stV ⟨sec, 1, sn, (so, shi, slo), sr⟩] w fun e w' => e = .returned (.bool true) ∧ Left w A kn mo r b ev w' := by
  obtain ⟨W, hW⟩ : ∃ W, W = (w.alloc (Obj.cells #[.pointer (some ⟨A.g, 0, none⟩), .pointer (some ⟨r, 0, none⟩)] 61)).alloc (Obj.cells #[.bool sec, .int .i64 1, .int .i64 sn, .int .i64 so, .int .u64 (shi : Int), .int .u64 (slo : Int), .int .i64 sr] 63) := ⟨_, rfl⟩
  have hBW : Below w.heap.size w W := by rw [hW]; exact below_call (below1 _ _) (below1 _ _)
  have hBx : Bx W w.heap.size (w.heap.size + 1) A.g r ⟨sec, 1, sn, (so, shi, slo), sr⟩ := by rw [hW]; exact Bx.new w A.g r ⟨sec, 1, sn, (so, shi, slo), sr⟩
  have HW := hid (h.later hBW)
  have HBW := hid hBW
  have HBx := hid hBx
  have hns : ¬ PS A r b w.heap.size := fun e => by have := h.lt _ e; omega
  have hns2 : ¬ PS A r b (w.heap.size + 1) := fun e => by have := h.lt _ e; omega
  obtain ⟨p0, p1, s0, s1, s2, s3, s4, s5, s6⟩ := hBx
  simp only [Nat.zero_add] at s0 s1 s2 s3 s4 s5 s6
  have hro := hid (child_of HW.out.c sn (so, shi, slo) sr hok)
  have hrr : Hid (∀ W2, But A.Wr W W2 → Calls Try.prog 37 #[.pointer (some ⟨r, 0, none⟩), .int .i64 sn, .agg #[.int .i64 so, .int .u64 (shi : Int), .int .u64 (slo : Int)], .int .i64 sr] W2 (RDone W2 r b mo (childR mo X l sn (so, shi, slo) sr) wh ev)) := fun W2 hW2 => by
    have hf : Rf W2 r b mo X l wh ev := HW.out.f.but hW2 (fun e => (h.n r (.inr (.inr e))).1 rfl) (fun e => (h.n b (.inr (.inr e))).2 rfl)
    exact rchild_any hf HW.out.c.inv h.t he sn (so, shi, slo) sr hok
  have HN := hid h.n
  generalize childR mo X l sn (so, shi, slo) sr = R at hro hrr
  unfold stV prV
  simp only
  clear h hBW
  go_enter Try.func21, Try.ntmps21
  go_upto_region 1 with fail
  rw [← hW]
  clear hW
  go_upto_region 8 with (first | (go_at_call 24; refine hro.out.mono ?_; rintro e w2 ⟨rfl, hc2, hb2⟩; have HC2 := hid hc2; have HB2 := hid hb2; clear hc2 hb2))
  have hrr2 := hid (hrr.out w2 HB2.out)
  obtain ⟨q0, q1, t0, t1, t2, t3, t4, t5, t6⟩ := HBx.out.but HB2.out (fun e => hns (.inl (.inr (.inr e)))) (fun e => hns2 (.inl (.inr (.inr e))))
  simp only [Nat.zero_add] at t0 t1 t2 t3 t4 t5 t6
  clear p0 p1 s0 s1 s2 s3 s4 s5 s6
  go_upto_region 9 with (first | (go_at_call 37; refine hrr2.out.mono ?_; rintro e w3 ⟨rfl, ⟨wh', ev', hf3, ht3, he3⟩, hb3⟩; have HF3 := hid hf3; have HT3 := hid ht3; have HB3 := hid hb3; clear hf3 ht3 hb3))
  go_wp2
  go_ret
  exact ⟨rfl, R.X, R.l, wh', ev', ⟨HC2.out.but HB3.out (fun k hk e => by rcases e with rfl | rfl; exact (HN.out _ hk).1 rfl; exact (HN.out _ hk).2 rfl), HF3.out, HT3.out, HN.out⟩, he3, ((But.of HBW.out).trans (HB2.out.mono (fun k hk => .inl (.inr (.inr hk))))).trans (HB3.out.mono (fun k hk => .inr hk))⟩
set_option maxRecDepth 100000 in
set_option maxHeartbeats 4000000 in
theorem step_drop {w : World} {A : Ad} {kn mo r b : Nat} {X : List Tk} {l : Fo} {wh : Int → Int} {ev : Nat} (h : Pr w A kn mo r b X l wh ev) (sec : Bool) (sn so : Int) (shi slo : Nat) (sr : Int) :
    Calls Try.prog 21 #[prV A.g r, stV ⟨sec, 4, sn, (so, shi, slo), sr⟩] w fun e w' => e = .returned (.bool true) ∧ Left w A kn mo r b ev w' := by
  obtain ⟨W, hW⟩ : ∃ W, W = (w.alloc (Obj.cells #[.pointer (some ⟨A.g, 0, none⟩), .pointer (some ⟨r, 0, none⟩)] 61)).alloc (Obj.cells #[.bool sec, .int .i64 4, .int .i64 sn, .int .i64 so, .int .u64 (shi : Int), .int .u64 (slo : Int), .int .i64 sr] 63) := ⟨_, rfl⟩
  have hBW : Below w.heap.size w W := by rw [hW]; exact below_call (below1 _ _) (below1 _ _)
  have hBx : Bx W w.heap.size (w.heap.size + 1) A.g r ⟨sec, 4, sn, (so, shi, slo), sr⟩ := by rw [hW]; exact Bx.new w A.g r ⟨sec, 4, sn, (so, shi, slo), sr⟩
  have HW := hid (h.later hBW)
  have HBW := hid hBW
  have HBx := hid hBx
  have hns : ¬ PS A r b w.heap.size := fun e => by have := h.lt _ e; omega
  have hns2 : ¬ PS A r b (w.heap.size + 1) := fun e => by have := h.lt _ e; omega
  obtain ⟨p0, p1, s0, s1, s2, s3, s4, s5, s6⟩ := hBx
  simp only [Nat.zero_add] at s0 s1 s2 s3 s4 s5 s6
  have hro := hid (cdrop_any HW.out.c sn)
  have hok := h.c.inv.ok
  have hrr : Hid (∀ W2, But A.Wr W W2 → Calls Try.prog 40 #[.pointer (some ⟨r, 0, none⟩), .int .i64 sn] W2 (RDropped W2 r b mo X l wh ev sn)) := fun W2 hW2 =>
    rdrop_any (HW.out.f.but hW2 (fun e => (h.n r (.inr (.inr e))).1 rfl) (fun e => (h.n b (.inr (.inr e))).2 rfl)) hok h.t sn
  have HN := hid h.n
  have HTc := hid (h.t.cuts (G true l sn))
  have hD : dropS ⟨X, l⟩ sn = ⟨zer X (G true l sn), cuts l (G true l sn)⟩ := by
    unfold dropS
    by_cases hn : sn ∈ nums l
    · simp only [if_pos hn]
    · simp only [if_neg hn, G_out hn, cuts_nil]; rfl
  have hL : (if sn ∈ nums l then G true l sn else []) = G true l sn := by
    by_cases hn : sn ∈ nums l
    · rw [if_pos hn]
    · rw [if_neg hn, G_out hn]
  have hGl := G_len hok true sn
  have hbig := h.f.big
  unfold Dropped at hro
  rw [hD] at hro
  simp only at hro
  rw [hL] at hro
  unfold RDropped at hrr
  obtain ⟨cd, hcd⟩ : ∃ cd : Int, cd = (if sn ∈ nums l then 0 else 20) := ⟨_, rfl⟩
  rw [← hcd] at hro
  simp only [← hcd] at hrr
  have hKl : ((G true l sn).map (fun k => (tk X k).1)).length = (G true l sn).length := List.length_map _
  generalize hG : G true l sn = Gs at *
  generalize hK : Gs.map (fun k => (tk X k).1) = K at *
  clear hD hL hcd hG hK hok
  unfold stV prV
  simp only
  clear h hBW
  go_enter Try.func21, Try.ntmps21
  go_upto_region 1 with fail
  rw [← hW]
  clear hW
  go_upto_region 20 with (first | (go_at_call 14; refine hro.out.mono ?_; rintro e w2 ⟨a2, c2, rfl, hO2, hc2, hb2⟩; have HO2 := hid hO2; have HC2 := hid hc2; have HB2 := hid hb2; clear hO2 hc2 hb2))
  have hrr2 := hid (hrr.out w2 HB2.out)
  obtain ⟨q0, q1, t0, t1, t2, t3, t4, t5, t6⟩ := HBx.out.but HB2.out (fun e => hns (.inl (.inr (.inr e)))) (fun e => hns2 (.inl (.inr (.inr e))))
  simp only [Nat.zero_add] at t0 t1 t2 t3 t4 t5 t6
  clear p0 p1 s0 s1 s2 s3 s4 s5 s6
  go_upto_region 21 with (first | (go_at_call 40; refine hrr2.out.mono ?_; rintro e w3 ⟨a3, c3, rfl, hO3, hf3, hb3⟩; have HO3 := hid hO3; have HF3 := hid hf3; have HB3 := hid hb3; clear hO3 hf3 hb3))
  have HSM := hid (sameC_any c2 c3 ((HO2.out.rd hKl).but HB3.out (fun k hk e => by have := (HO2.out.blk k hk).1; have := HW.out.f.ltb; omega)) (HO3.out.rd hKl) (by omega) (by omega))
  rw [decide_eq_true rfl] at HSM
  go_wp2_with (first | (go_at_call 17; refine HSM.out.mono ?_; rintro e w4 ⟨rfl, q, hw4⟩; have HW4 := hid hw4; clear hw4))
  go_ret
  have hb4 : Below w3.heap.size w3 w4 := by rw [HW4.out]; exact below_drewN (Below.refl _ _) _
  exact ⟨rfl, _, _, wh, ev, ⟨(HC2.out.but HB3.out (fun k hk e => (HN.out _ hk).2 e)).later hb4, HF3.out.later hb4, HTc.out, HN.out⟩, by omega, (((But.of HBW.out).trans (HB2.out.mono (fun k hk => .inl (.inr (.inr hk))))).trans (HB3.out.mono (fun k hk => .inr (.inr hk)))).trans (But.of hb4)⟩
set_option maxRecDepth 100000 in
set_option maxHeartbeats 4000000 in
theorem step_find {w : World} {A : Ad} {kn mo r b : Nat} {X : List Tk} {l : Fo} {wh : Int → Int} {ev : Nat} (h : Pr w A kn mo r b X l wh ev) (sec : Bool) (sn so : Int) (shi slo : Nat) (sr : Int) (hok : shi < B64 ∧ slo < B64) :
    Calls Try.prog 21 #[prV A.g r, stV ⟨sec, 2, sn, (so, shi, slo), sr⟩] w fun e w' => e = .returned (.bool true) ∧ Below w.heap.size w w' := by
  obtain ⟨W, hW⟩ : ∃ W, W = (w.alloc (Obj.cells #[.pointer (some ⟨A.g, 0, none⟩), .pointer (some ⟨r, 0, none⟩)] 61)).alloc (Obj.cells #[.bool sec, .int .i64 2, .int .i64 sn, .int .i64 so, .int .u64 (shi : Int), .int .u64 (slo : Int), .int .i64 sr] 63) := ⟨_, rfl⟩
  have hBW : Below w.heap.size w W := by rw [hW]; exact below_call (below1 _ _) (below1 _ _)
  have hBx : Bx W w.heap.size (w.heap.size + 1) A.g r ⟨sec, 2, sn, (so, shi, slo), sr⟩ := by rw [hW]; exact Bx.new w A.g r ⟨sec, 2, sn, (so, shi, slo), sr⟩
  have HW := hid (h.later hBW)
  have HBW := hid hBW
  have HBx := hid hBx
  have hns : ¬ PS A r b w.heap.size := fun e => by have := h.lt _ e; omega
  have hns2 : ¬ PS A r b (w.heap.size + 1) := fun e => by have := h.lt _ e; omega
  obtain ⟨p0, p1, s0, s1, s2, s3, s4, s5, s6⟩ := hBx
  simp only [Nat.zero_add] at s0 s1 s2 s3 s4 s5 s6
  have hro := hid (cfind_any HW.out.c (so, shi, slo) hok)
  have hrr : Hid (∀ W2, Below W.heap.size W W2 → _) := fun W2 hW2 => rfind_any (HW.out.f.later hW2) HW.out.c.inv so shi slo
  generalize findN X l (so, shi, slo) = fn at *
  generalize hasC X l (so, shi, slo) = hc at *
  unfold stV prV
  simp only
  clear h hBW
  go_enter Try.func21, Try.ntmps21
  go_upto_region 1 with fail
  rw [← hW]
  clear hW
  go_upto_region 12 with (first | (go_at_call 11; refine hro.out.mono ?_; rintro e w2 ⟨rfl, hb2⟩; have HB2 := hid hb2; clear hb2))
  have hrr2 := hid (hrr.out w2 HB2.out)
  obtain ⟨q0, q1, t0, t1, t2, t3, t4, t5, t6⟩ := HBx.out.later HB2.out
  simp only [Nat.zero_add] at t0 t1 t2 t3 t4 t5 t6
  clear p0 p1 s0 s1 s2 s3 s4 s5 s6
  go_wp2_with (first | (go_at_call 38; refine hrr2.out.mono ?_; rintro e w3 ⟨rfl, hb3⟩; have HB3 := hid hb3; clear hb3))
  go_ret
  exact ⟨rfl, below_call (below_call HBW.out HB2.out) HB3.out⟩
set_option maxRecDepth 100000 in
set_option maxHeartbeats 4000000 in
theorem step_at {w : World} {A : Ad} {kn mo r b : Nat} {X : List Tk} {l : Fo} {wh : Int → Int} {ev : Nat} (h : Pr w A kn mo r b X l wh ev) (sec : Bool) (sn so : Int) (shi slo : Nat) (sr : Int) :
    Calls Try.prog 21 #[prV A.g r, stV ⟨sec, 3, sn, (so, shi, slo), sr⟩] w fun e w' => e = .returned (.bool true) ∧ Below w.heap.size w w' := by
  obtain ⟨W, hW⟩ : ∃ W, W = (w.alloc (Obj.cells #[.pointer (some ⟨A.g, 0, none⟩), .pointer (some ⟨r, 0, none⟩)] 61)).alloc (Obj.cells #[.bool sec, .int .i64 3, .int .i64 sn, .int .i64 so, .int .u64 (shi : Int), .int .u64 (slo : Int), .int .i64 sr] 63) := ⟨_, rfl⟩
  have hBW : Below w.heap.size w W := by rw [hW]; exact below_call (below1 _ _) (below1 _ _)
  have hBx : Bx W w.heap.size (w.heap.size + 1) A.g r ⟨sec, 3, sn, (so, shi, slo), sr⟩ := by rw [hW]; exact Bx.new w A.g r ⟨sec, 3, sn, (so, shi, slo), sr⟩
  have HW := hid (h.later hBW)
  have HBW := hid hBW
  have HBx := hid hBx
  have hns : ¬ PS A r b w.heap.size := fun e => by have := h.lt _ e; omega
  have hns2 : ¬ PS A r b (w.heap.size + 1) := fun e => by have := h.lt _ e; omega
  obtain ⟨p0, p1, s0, s1, s2, s3, s4, s5, s6⟩ := hBx
  simp only [Nat.zero_add] at s0 s1 s2 s3 s4 s5 s6
  have hro := hid (at_any HW.out.c.cm sn)
  have hrr : Hid (∀ W2, Below W.heap.size W W2 → _) := fun W2 hW2 => rat_any (HW.out.f.later hW2) HW.out.c.inv.ok.range sn
  rw [tokV_eq] at hro
  simp only [tokV_eq] at hrr
  generalize tokT X l sn = tt at *
  obtain ⟨⟨ot, ht_, lt_⟩, rt, pp⟩ := tt
  simp only at hro hrr
  generalize decide (sn ∈ nums l) = dd at *
  have heq := fun W => eqlT ot (ht_ : Int) (lt_ : Int) rt pp ot (ht_ : Int) (lt_ : Int) rt pp W
  have hq1 : tEq ot (ht_ : Int) (lt_ : Int) rt pp ot (ht_ : Int) (lt_ : Int) rt pp = true := by simp [tEq]
  simp only [hq1] at heq
  unfold stV prV
  simp only
  clear h hBW
  go_enter Try.func21, Try.ntmps21
  go_upto_region 1 with fail
  rw [← hW]
  clear hW
  go_upto_region 16 with (first | (go_at_call 9; refine hro.out.mono ?_; rintro e w2 ⟨rfl, hb2⟩; have HB2 := hid hb2; clear hb2))
  obtain ⟨w3, hw3⟩ : ∃ w3, w3 = w2.alloc (Obj.cells #[.int .i64 ot, .int .u64 (ht_ : Int), .int .u64 (lt_ : Int), .int .i64 rt, .int .i64 pp] 35) := ⟨_, rfl⟩
  have hb3 : Below w2.heap.size w2 w3 := by rw [hw3]; exact below1 _ _
  have hB3 := below_call HB2.out hb3
  have hc3 : Cet w3 w2.heap.size 0 ((ot, ht_, lt_), rt, pp) := by rw [hw3]; exact ⟨by simp [go_sem], by simp [go_sem], by simp [go_sem], by simp [go_sem], by simp [go_sem]⟩
  have hrr2 := hid (hrr.out w3 hB3)
  obtain ⟨q0, q1, t0, t1, t2, t3, t4, t5, t6⟩ := HBx.out.later hB3
  simp only [Nat.zero_add] at t0 t1 t2 t3 t4 t5 t6
  have HC3 := hid hc3
  have HB3 := hid hB3
  rw [← hw3]
  clear p0 p1 s0 s1 s2 s3 s4 s5 s6 hw3 hc3 hb3 hB3
  go_upto_region 17 with (first | (go_at_call 39; refine hrr2.out.mono ?_; rintro e w4 ⟨rfl, hb4⟩; have HB4 := hid hb4; clear hb4))
  obtain ⟨w5, hw5⟩ : ∃ w5, w5 = w4.alloc (Obj.cells #[.int .i64 ot, .int .u64 (ht_ : Int), .int .u64 (lt_ : Int), .int .i64 rt, .int .i64 pp] 35) := ⟨_, rfl⟩
  have hb5 : Below w4.heap.size w4 w5 := by rw [hw5]; exact below1 _ _
  obtain ⟨c0, c1, c2, c3, c4⟩ := HC3.out.later (below_call HB4.out hb5)
  obtain ⟨d0, d1, d2, d3, d4⟩ : Cet w5 w4.heap.size 0 ((ot, ht_, lt_), rt, pp) := by rw [hw5]; exact ⟨by simp [go_sem], by simp [go_sem], by simp [go_sem], by simp [go_sem], by simp [go_sem]⟩
  simp only [Nat.zero_add] at c0 c1 c2 c3 c4 d0 d1 d2 d3 d4
  have HB5 := hid (below_call (below_call HBW.out HB3.out) (below_call HB4.out hb5))
  rw [← hw5]
  clear hw5 hb5 q0 q1 t0 t1 t2 t3 t4 t5 t6
  go_wp2
  go_ret
  exact ⟨rfl, HB5.out⟩
set_option maxRecDepth 100000 in
set_option maxHeartbeats 4000000 in
theorem step_of {w : World} {A : Ad} {kn mo r b : Nat} {X : List Tk} {l : Fo} {wh : Int → Int} {ev : Nat} (h : Pr w A kn mo r b X l wh ev) (sec : Bool) (sn so : Int) (shi slo : Nat) (sr : Int) :
    Calls Try.prog 21 #[prV A.g r, stV ⟨sec, 5, sn, (so, shi, slo), sr⟩] w fun e w' => e = .returned (.bool true) ∧ Below w.heap.size w w' := by
  obtain ⟨W, hW⟩ : ∃ W, W = (w.alloc (Obj.cells #[.pointer (some ⟨A.g, 0, none⟩), .pointer (some ⟨r, 0, none⟩)] 61)).alloc (Obj.cells #[.bool sec, .int .i64 5, .int .i64 sn, .int .i64 so, .int .u64 (shi : Int), .int .u64 (slo : Int), .int .i64 sr] 63) := ⟨_, rfl⟩
  have hBW : Below w.heap.size w W := by rw [hW]; exact below_call (below1 _ _) (below1 _ _)
  have hBx : Bx W w.heap.size (w.heap.size + 1) A.g r ⟨sec, 5, sn, (so, shi, slo), sr⟩ := by rw [hW]; exact Bx.new w A.g r ⟨sec, 5, sn, (so, shi, slo), sr⟩
  have HW := hid (h.later hBW)
  have HBW := hid hBW
  have HBx := hid hBx
  have hns : ¬ PS A r b w.heap.size := fun e => by have := h.lt _ e; omega
  have hns2 : ¬ PS A r b (w.heap.size + 1) := fun e => by have := h.lt _ e; omega
  obtain ⟨p0, p1, s0, s1, s2, s3, s4, s5, s6⟩ := hBx
  simp only [Nat.zero_add] at s0 s1 s2 s3 s4 s5 s6
  have HS : Hid (∀ U, Below W.heap.size W U → (U.cell? ⟨w.heap.size, 0, none⟩ = some (.pointer (some ⟨A.g, 0, none⟩)) ∧ U.cell? ⟨w.heap.size, 1, none⟩ = some (.pointer (some ⟨r, 0, none⟩)) ∧ U.cell? ⟨w.heap.size + 1, 3, none⟩ = some (.int .i64 so)) ∧ Below W.heap.size W U) := fun U hU => by
    obtain ⟨q0, q1, t0, t1, t2, t3, t4, t5, t6⟩ := HBx.out.later hU
    simp only [Nat.zero_add] at t0 t1 t2 t3 t4 t5 t6
    exact ⟨⟨q0, q1, t3⟩, hU⟩
  have hro : Hid (∀ W2, Below W.heap.size W W2 → _) := fun W2 hW2 => cof_any (HW.out.c.later hW2) so
  have hrr : Hid (∀ W2, Below W.heap.size W W2 → _) := fun W2 hW2 => rof_any (HW.out.f.later hW2) HW.out.c.inv h.t so
  have hll : (ofL mo X l so).length ≤ 256 := by
    unfold ofL
    cases rootOf X l so with
    | none => simp
    | some q => simp only [ofF_len2]; exact Nat.le_trans (G_len HW.out.c.inv.ok true q) h.f.big
  generalize hOL : ofL mo X l so = O at *
  clear hOL
  unfold stV prV
  simp only
  clear h hBW
  go_enter Try.func21, Try.ntmps21
  go_upto_region 1 with fail
  rw [← hW]
  clear hW
  go_upto_region 23 with fail
  clear p0 p1 s0 s1 s2 s3 s4 s5 s6
  go_region_held3 (fun U => (U.cell? ⟨w.heap.size, 0, none⟩ = some (.pointer (some ⟨A.g, 0, none⟩)) ∧ U.cell? ⟨w.heap.size, 1, none⟩ = some (.pointer (some ⟨r, 0, none⟩)) ∧ U.cell? ⟨w.heap.size + 1, 3, none⟩ = some (.int .i64 so)) ∧ Below W.heap.size W U) (first | exact HS.out _ hb3.out | exact HS.out _ hb2.out | exact HS.out _ hb1.out | exact HS.out _ (Below.refl _ _).drew) (first
    | (go_at_call 16; refine (sameT_any _ _ (HO1.out.later HB2.out) HO2.out (by omega) (by omega)).mono ?_; rintro e w4 ⟨rfl, q, hw4⟩; rw [decide_eq_true rfl]; have hb3 : Hid (Below W.heap.size W w4) := (by unfold Hid; rw [hw4]; exact below_drewN hb2.out _); clear hw4)
    | (go_at_call 41; refine (hrr.out _ hb1.out).mono ?_; rintro e w3 ⟨a3, c3, rfl, hO3, hB3⟩; have HO2 := hid (hO3.rt rfl); have HB2 := hid hB3; have hb2 := hid (below_call hb1.out hB3); clear hO3 hB3)
    | (go_at_call 15; refine (hro.out _ (Below.refl _ _).drew).mono ?_; rintro e w2 ⟨a2, c2, rfl, hO2, hB2⟩; have HO1 := hid (hO2.rt rfl); have hb1 := hid (below_call (Below.refl W.heap.size W).drew hB2); clear hO2 hB2))
  go_wp2
  go_ret
  exact ⟨rfl, below_call HBW.out hb3.out⟩
set_option maxRecDepth 100000 in
set_option maxHeartbeats 4000000 in
theorem step_count {w : World} {A : Ad} {kn mo r b : Nat} {X : List Tk} {l : Fo} {wh : Int → Int} {ev : Nat} (h : Pr w A kn mo r b X l wh ev) (sec : Bool) (sn so : Int) (shi slo : Nat) (sr : Int) :
    Calls Try.prog 21 #[prV A.g r, stV ⟨sec, 6, sn, (so, shi, slo), sr⟩] w fun e w' => e = .returned (.bool true) ∧ Below w.heap.size w w' := by
  obtain ⟨W, hW⟩ : ∃ W, W = (w.alloc (Obj.cells #[.pointer (some ⟨A.g, 0, none⟩), .pointer (some ⟨r, 0, none⟩)] 61)).alloc (Obj.cells #[.bool sec, .int .i64 6, .int .i64 sn, .int .i64 so, .int .u64 (shi : Int), .int .u64 (slo : Int), .int .i64 sr] 63) := ⟨_, rfl⟩
  have hBW : Below w.heap.size w W := by rw [hW]; exact below_call (below1 _ _) (below1 _ _)
  have hBx : Bx W w.heap.size (w.heap.size + 1) A.g r ⟨sec, 6, sn, (so, shi, slo), sr⟩ := by rw [hW]; exact Bx.new w A.g r ⟨sec, 6, sn, (so, shi, slo), sr⟩
  have HW := hid (h.later hBW)
  have HBW := hid hBW
  have HBx := hid hBx
  have hns : ¬ PS A r b w.heap.size := fun e => by have := h.lt _ e; omega
  have hns2 : ¬ PS A r b (w.heap.size + 1) := fun e => by have := h.lt _ e; omega
  obtain ⟨p0, p1, s0, s1, s2, s3, s4, s5, s6⟩ := hBx
  simp only [Nat.zero_add] at s0 s1 s2 s3 s4 s5 s6
  have HS : Hid (∀ U, Below W.heap.size W U → (U.cell? ⟨w.heap.size, 0, none⟩ = some (.pointer (some ⟨A.g, 0, none⟩)) ∧ U.cell? ⟨w.heap.size, 1, none⟩ = some (.pointer (some ⟨r, 0, none⟩)) ∧ U.cell? ⟨w.heap.size + 1, 3, none⟩ = some (.int .i64 so)) ∧ Below W.heap.size W U) := fun U hU => by
    obtain ⟨q0, q1, t0, t1, t2, t3, t4, t5, t6⟩ := HBx.out.later hU
    simp only [Nat.zero_add] at t0 t1 t2 t3 t4 t5 t6
    exact ⟨⟨q0, q1, t3⟩, hU⟩
  have h1 : Hid (∀ W2, Below W.heap.size W W2 → _) := fun W2 hW2 => ccount_any (HW.out.c.later hW2)
  have h2 : Hid (∀ W2, Below W.heap.size W W2 → _) := fun W2 hW2 => rcount_any (HW.out.f.later hW2) HW.out.c.inv.ok
  have h3 : Hid (∀ W2, Below W.heap.size W W2 → _) := fun W2 hW2 => cin_any (HW.out.c.later hW2).cm so
  have h4 : Hid (∀ W2, Below W.heap.size W W2 → _) := fun W2 hW2 => rin_any (HW.out.f.later hW2) HW.out.c.inv.ok so
  generalize (l.length : Int) = ln at h1 h2
  generalize (inN X l so : Int) = nn at h3 h4
  have q1 : (ln == ln) = true := by simp
  have q2 : (nn == nn) = true := by simp
  unfold stV prV
  simp only
  clear h hBW
  go_enter Try.func21, Try.ntmps21
  go_upto_region 1 with fail
  rw [← hW]
  clear hW
  go_upto_region 25 with fail
  clear p0 p1 s0 s1 s2 s3 s4 s5 s6
  go_region_held3 (fun U => (U.cell? ⟨w.heap.size, 0, none⟩ = some (.pointer (some ⟨A.g, 0, none⟩)) ∧ U.cell? ⟨w.heap.size, 1, none⟩ = some (.pointer (some ⟨r, 0, none⟩)) ∧ U.cell? ⟨w.heap.size + 1, 3, none⟩ = some (.int .i64 so)) ∧ Below W.heap.size W U) (first | exact HS.out _ hb4.out | exact HS.out _ hb3.out | exact HS.out _ hb2.out | exact HS.out _ hb1.out | exact HS.out _ (Below.refl _ _).drew) (first
    | (go_at_call 43; refine (h4.out _ hb3.out).mono ?_; rintro e w5 ⟨rfl, hw5⟩; obtain rfl := hw5.symm; have hb4 := hb3; clear hw5)
    | (go_at_call 25; refine (h3.out _ hb2.out).mono ?_; rintro e w4 ⟨rfl, hB4⟩; have hb3 := hid (below_call hb2.out hB4); clear hB4)
    | (go_at_call 42; refine (h2.out _ hb1.out).mono ?_; rintro e w3 ⟨rfl, hw3⟩; obtain rfl := hw3.symm; have hb2 := hb1; clear hw3)
    | (go_at_call 13; refine (h1.out _ (Below.refl _ _).drew).mono ?_; rintro e w2 ⟨rfl, hw2⟩; have hb1 : Hid (Below W.heap.size W w2) := (by unfold Hid; rw [hw2]; exact (Below.refl W.heap.size W).drew); clear hw2))
  go_wp2
  go_ret
  exact ⟨rfl, below_call HBW.out hb4.out⟩
set_option maxRecDepth 100000 in
set_option maxHeartbeats 4000000 in
theorem step_none {w : World} {A : Ad} {kn mo r b : Nat} {X : List Tk} {l : Fo} {wh : Int → Int} {ev : Nat} (h : Pr w A kn mo r b X l wh ev) (sec : Bool) (kd sn so : Int) (shi slo : Nat) (sr : Int) (hk : kd ≠ 0 ∧ kd ≠ 1 ∧ kd ≠ 2 ∧ kd ≠ 3 ∧ kd ≠ 4 ∧ kd ≠ 5 ∧ kd ≠ 6) :
    Calls Try.prog 21 #[prV A.g r, stV ⟨sec, kd, sn, (so, shi, slo), sr⟩] w fun e w' => e = .returned (.bool true) ∧ Below w.heap.size w w' := by
  obtain ⟨W, hW⟩ : ∃ W, W = (w.alloc (Obj.cells #[.pointer (some ⟨A.g, 0, none⟩), .pointer (some ⟨r, 0, none⟩)] 61)).alloc (Obj.cells #[.bool sec, .int .i64 kd, .int .i64 sn, .int .i64 so, .int .u64 (shi : Int), .int .u64 (slo : Int), .int .i64 sr] 63) := ⟨_, rfl⟩
  have hBW : Below w.heap.size w W := by rw [hW]; exact below_call (below1 _ _) (below1 _ _)
  have hBx : Bx W w.heap.size (w.heap.size + 1) A.g r ⟨sec, kd, sn, (so, shi, slo), sr⟩ := by rw [hW]; exact Bx.new w A.g r ⟨sec, kd, sn, (so, shi, slo), sr⟩
  have HW := hid (h.later hBW)
  have HBW := hid hBW
  have HBx := hid hBx
  have hns : ¬ PS A r b w.heap.size := fun e => by have := h.lt _ e; omega
  have hns2 : ¬ PS A r b (w.heap.size + 1) := fun e => by have := h.lt _ e; omega
  obtain ⟨p0, p1, s0, s1, s2, s3, s4, s5, s6⟩ := hBx
  simp only [Nat.zero_add] at s0 s1 s2 s3 s4 s5 s6
  obtain ⟨k0, k1, k2, k3, k4, k5, k6⟩ := hk
  have q0 : (kd == 0) = false := by simp [k0]
  have q1 : (kd == 1) = false := by simp [k1]
  have q2 : (kd == 2) = false := by simp [k2]
  have q3 : (kd == 3) = false := by simp [k3]
  have q4 : (kd == 4) = false := by simp [k4]
  have q5 : (kd == 5) = false := by simp [k5]
  have q6 : (kd == 6) = false := by simp [k6]
  unfold stV prV
  simp only
  clear h hBW
  go_enter Try.func21, Try.ntmps21
  go_upto_region 1 with fail
  rw [← hW]
  clear hW
  go_wp2
  go_ret
  exact ⟨rfl, HBW.out⟩
/-- A call that reads. -/
theorem step_read {w : World} {A : Ad} {kn mo r b : Nat} {X : List Tk} {l : Fo} {wh : Int → Int} {ev : Nat} (h : Pr w A kn mo r b X l wh ev) (s : Sp) (hok : s.c.2.1 < B64 ∧ s.c.2.2 < B64) (hk : s.kd ≠ 0 ∧ s.kd ≠ 1 ∧ s.kd ≠ 4) :
    Calls Try.prog 21 #[prV A.g r, stV s] w fun e w' => e = .returned (.bool true) ∧ Below w.heap.size w w' := by
  obtain ⟨sec, kd, sn, ⟨so, shi, slo⟩, sr⟩ := s
  obtain ⟨k0, k1, k4⟩ := hk
  simp only at k0 k1 k4 hok
  by_cases k2 : kd = 2
  · subst k2; exact step_find h sec sn so shi slo sr hok
  by_cases k3 : kd = 3
  · subst k3; exact step_at h sec sn so shi slo sr
  by_cases k5 : kd = 5
  · subst k5; exact step_of h sec sn so shi slo sr
  by_cases k6 : kd = 6
  · subst k6; exact step_count h sec sn so shi slo sr
  exact step_none h sec kd sn so shi slo sr ⟨k0, k1, k2, k3, k4, k5, k6⟩
/-- Any call. -/
theorem step_any {w : World} {A : Ad} {kn mo r b : Nat} {X : List Tk} {l : Fo} {wh : Int → Int} {ev : Nat} (h : Pr w A kn mo r b X l wh ev) (s : Sp) (hok : s.c.2.1 < B64 ∧ s.c.2.2 < B64) (he : ev < 9223372036854775807) :
    Calls Try.prog 21 #[prV A.g r, stV s] w fun e w' => e = .returned (.bool true) ∧ Left w A kn mo r b ev w' := by
  by_cases k0 : s.kd = 0
  · obtain ⟨sec, kd, sn, ⟨so, shi, slo⟩, sr⟩ := s
    simp only at k0 hok
    subst k0
    exact step_root h sec sn so shi slo sr hok he
  by_cases k1 : s.kd = 1
  · obtain ⟨sec, kd, sn, ⟨so, shi, slo⟩, sr⟩ := s
    simp only at k1 hok
    subst k1
    exact step_child h sec sn so shi slo sr hok he
  by_cases k4 : s.kd = 4
  · obtain ⟨sec, kd, sn, ⟨so, shi, slo⟩, sr⟩ := s
    simp only at k4 hok
    subst k4
    exact step_drop h sec sn so shi slo sr
  exact (step_read h s hok ⟨k0, k1, k4⟩).mono (fun e w' he => ⟨he.1, h.left he.2⟩)
open Go.RowKit Go.Shelf H
set_option linter.unusedVariables false

/-! ### whole -/
def WhRel (w : World) (mo : Nat) (t : Value) (w' : World) : Prop := ∃ i : Nat, i ≤ mo ∧ t = .int .i64 (i : Int) ∧ Below w.heap.size w w'
theorem tokT_wide {m : Nat} {X : List Tk} {l : Fo} (h : Inv m X l) (n : Int) : (tokT X l n).1.2.1 < B64 ∧ (tokT X l n).1.2.2 < B64 := by
  unfold tokT
  by_cases hn : n ∈ nums l
  · rw [if_pos hn]; exact h.wide n hn
  · rw [if_neg hn]; exact ⟨by decide, by decide⟩
set_option maxRecDepth 100000 in
set_option maxHeartbeats 4000000 in
theorem whole_any {w : World} {A : Ad} {kn mo r b : Nat} {X : List Tk} {l : Fo} {wh : Int → Int} {ev : Nat} (h : Pr w A kn mo r b X l wh ev) :
    Calls Try.prog 22 #[prV A.g r] w fun e w' => e = .returned (.bool true) ∧ Below w.heap.size w w' := by
  obtain ⟨W, hW⟩ : ∃ W, W = w.alloc (Obj.cells #[.pointer (some ⟨A.g, 0, none⟩), .pointer (some ⟨r, 0, none⟩)] 61) := ⟨_, rfl⟩
  have hBW : Below w.heap.size w W := by rw [hW]; exact below1 _ _
  have p0 : W.cell? ⟨w.heap.size, 0, none⟩ = some (.pointer (some ⟨A.g, 0, none⟩)) := by rw [hW]; simp [go_sem]
  have p1 : W.cell? ⟨w.heap.size, 1, none⟩ = some (.pointer (some ⟨r, 0, none⟩)) := by rw [hW]; simp [go_sem]
  have HBW := hid hBW
  have HH := hid (h.later hBW)
  have hbig := h.f.big
  have HP0 := hid p0
  have HP1 := hid p1
  unfold prV
  clear h hBW p0 p1
  go_enter Try.func22, Try.ntmps22
  go_upto_region 2 with fail
  rw [← hW]
  clear hW
  go_loopw [3] (WhRel W mo) (fun t _ => mo - (intOf t).toNat)
  case atStart => exact ⟨0, Nat.zero_le _, rfl, Below.refl _ _⟩
  case round =>
    obtain ⟨i, hi, rfl, hB⟩ := hrel
    have hH := HH.out.later hB
    have x0 := hH.f.c0
    have q0 := cell_later hB HP0.out
    have q1 := cell_later hB HP1.out
    have HB := hid hB
    by_cases hlt : i < mo
    · have hat := hid (rat_any hH.f hH.c.inv.ok.range (i : Int))
      have hwd := tokT_wide hH.c.inv (i : Int)
      rw [tokV_eq] at hat
      generalize tokT X l (i : Int) = tt at *
      obtain ⟨⟨ot, ht_, lt_⟩, rt, pp⟩ := tt
      simp only at hat hwd
      generalize decide ((i : Int) ∈ nums l) = dd at *
      have HH1 := hid hH
      clear hB hH
      go_upto_region 5 with (first | (go_at_call 39; refine hat.out.mono ?_; rintro e w2 ⟨rfl, hb2⟩; have HB2 := hid hb2; clear hb2))
      obtain ⟨w3, hw3⟩ : ∃ w3, w3 = w2.alloc (Obj.cells #[.int .i64 ot, .int .u64 (ht_ : Int), .int .u64 (lt_ : Int), .int .i64 rt, .int .i64 pp] 35) := ⟨_, rfl⟩
      have hb3 : Below w2.heap.size w2 w3 := by rw [hw3]; exact below1 _ _
      have HB3 := hid (below_call HB2.out hb3)
      have hc3 : Cet w3 w2.heap.size 0 ((ot, ht_, lt_), rt, pp) := by rw [hw3]; exact ⟨by simp [go_sem], by simp [go_sem], by simp [go_sem], by simp [go_sem], by simp [go_sem]⟩
      have HC : Hid (∀ U, Below w3.heap.size w3 U → U.cell? ⟨w.heap.size, 0, none⟩ = some (.pointer (some ⟨A.g, 0, none⟩)) ∧ U.cell? ⟨w.heap.size, 1, none⟩ = some (.pointer (some ⟨r, 0, none⟩)) ∧ U.cell? ⟨w2.heap.size, 0, none⟩ = some (.int .i64 ot) ∧ U.cell? ⟨w2.heap.size, 1, none⟩ = some (.int .u64 (ht_ : Int)) ∧ U.cell? ⟨w2.heap.size, 2, none⟩ = some (.int .u64 (lt_ : Int))) := fun U hU => by
        obtain ⟨c0, c1, c2, c3, c4⟩ := hc3.later hU
        simp only [Nat.zero_add] at c0 c1 c2 c3 c4
        exact ⟨cell_later (below_call HB3.out hU) q0, cell_later (below_call HB3.out hU) q1, c0, c1, c2⟩
      have K3 : Hid (∀ U, Below w3.heap.size w3 U → Calls Try.prog 21 #[.agg #[.pointer (some ⟨A.g, 0, none⟩), .pointer (some ⟨r, 0, none⟩)], .agg #[.bool false, .int .i64 3, .int .i64 (i : Int), .int .i64 0, .int .u64 0, .int .u64 0, .int .i64 0]] U fun e w' => e = .returned (.bool true) ∧ Below U.heap.size U w') := fun U hU =>
        step_read ((HH1.out.later HB3.out).later hU) ⟨false, 3, (i : Int), (0, 0, 0), 0⟩ ⟨by show 0 < B64; decide, by show 0 < B64; decide⟩ ⟨by simp, by simp, by simp⟩
      have KK : Hid (∀ kd : Int, kd ≠ 0 ∧ kd ≠ 1 ∧ kd ≠ 4 → ∀ U, Below w3.heap.size w3 U → Calls Try.prog 21 #[.agg #[.pointer (some ⟨A.g, 0, none⟩), .pointer (some ⟨r, 0, none⟩)], .agg #[.bool false, .int .i64 kd, .int .i64 0, .int .i64 ot, .int .u64 (ht_ : Int), .int .u64 (lt_ : Int), .int .i64 0]] U fun e w' => e = .returned (.bool true) ∧ Below U.heap.size U w') := fun kd hkd U hU =>
        step_read ((HH1.out.later HB3.out).later hU) ⟨false, kd, 0, (ot, ht_, lt_), 0⟩ hwd hkd
      have K5 := hid (KK.out 5 (by simp))
      have K6 := hid (KK.out 6 (by simp))
      have K2 := hid (KK.out 2 (by simp))
      obtain ⟨u0, u1, u2, u3, u4⟩ := HC.out w3 (Below.refl _ _)
      rw [← hw3]
      clear hw3 hb3 hc3 KK q0 q1 x0 hwd
      go_wp2_with (first
        | (go_at_call 21; refine (K2.out _ hb6.out).mono ?_; rintro e w7 ⟨rfl, hb7_⟩; have hb7 := hid (below_call hb6.out hb7_); clear hb7_)
        | (go_at_call 21; refine (K6.out _ hb5.out).mono ?_; rintro e w6 ⟨rfl, hb6_⟩; have hb6 := hid (below_call hb5.out hb6_); clear hb6_; obtain ⟨u0, u1, u2, u3, u4⟩ := HC.out w6 hb6.out)
        | (go_at_call 21; refine (K5.out _ hb4.out).mono ?_; rintro e w5 ⟨rfl, hb5_⟩; have hb5 := hid (below_call hb4.out hb5_); clear hb5_; obtain ⟨u0, u1, u2, u3, u4⟩ := HC.out w5 hb5.out)
        | (go_at_call 21; refine (K3.out _ (Below.refl _ _)).mono ?_; rintro e w4 ⟨rfl, hb4_⟩; have hb4 := hid hb4_; clear hb4_; obtain ⟨u0, u1, u2, u3, u4⟩ := HC.out w4 hb4.out))
      exact ⟨⟨i + 1, by omega, by go_num, below_call (below_call HB.out HB3.out) hb7.out⟩, by simp [intOf]; omega⟩
    · obtain rfl : i = mo := by omega
      clear hB hH
      go_wp2
      go_ret
      exact ⟨rfl, below_call HBW.out HB.out⟩
open Go.RowKit Go.Shelf H
set_option linter.unusedVariables false

/-! ### CatalogueAll -/
/-- A side of the law, if it is there. -/
def Sd (ok : Bool) (w : World) (A : Ad) (kn mo r b i : Nat) : Prop := ok = true → ∃ X l wh ev, Pr w A kn mo r b X l wh ev ∧ ev ≤ i
theorem Sd.but {S : Nat → Prop} {ok : Bool} {w w' : World} {A : Ad} {kn mo r b i : Nat} (h : Sd ok w A kn mo r b i) (hb : But S w w') (hn : ok = true → ∀ k, PS A r b k → ¬ S k) : Sd ok w' A kn mo r b (i + 1) := fun ho => by
  obtain ⟨X, l, wh, ev, h1, h2⟩ := h ho
  exact ⟨X, l, wh, ev, h1.but hb (hn ho), by omega⟩
theorem Sd.later {ok : Bool} {w w' : World} {A : Ad} {kn mo r b i : Nat} (h : Sd ok w A kn mo r b i) (hb : Below w.heap.size w w') : Sd ok w' A kn mo r b i := fun ho => by
  obtain ⟨X, l, wh, ev, h1, h2⟩ := h ho
  exact ⟨X, l, wh, ev, h1.later hb, h2⟩
theorem Sd.up {ok : Bool} {w : World} {A : Ad} {kn mo r b i : Nat} (h : Sd ok w A kn mo r b i) : Sd ok w A kn mo r b (i + 1) := fun ho => by
  obtain ⟨X, l, wh, ev, h1, h2⟩ := h ho
  exact ⟨X, l, wh, ev, h1, by omega⟩
def ptV (ok : Bool) (g : Nat) : Value := .pointer (if ok then some ⟨g, 0, none⟩ else none)
/-- What stays as it is. -/
structure Fx (w0 : World) (okA okB : Bool) (A : Ad) (r b : Nat) (B : Ad) (s d bA bB : Nat) : Prop where
  aa : okA = true → ∀ k, PS A r b k → w0.heap.size ≤ k ∧ k ≠ bA ∧ k ≠ bB
  bb : okB = true → ∀ k, PS B s d k → w0.heap.size ≤ k ∧ k ≠ bA ∧ k ≠ bB
  ap : okA = true → okB = true → ∀ k, PS A r b k → ¬ PS B s d k
/-- The boxes of both pairs. -/
structure Fb (w : World) (okA okB : Bool) (gA rA gB rB bA bB : Nat) : Prop where
  a0 : w.cell? ⟨bA, 0, none⟩ = some (ptV okA gA)
  a1 : w.cell? ⟨bA, 1, none⟩ = some (ptV okA rA)
  b0 : w.cell? ⟨bB, 0, none⟩ = some (ptV okB gB)
  b1 : w.cell? ⟨bB, 1, none⟩ = some (ptV okB rB)
theorem Fb.but {S : Nat → Prop} {w w' : World} {okA okB : Bool} {gA rA gB rB bA bB : Nat} (h : Fb w okA okB gA rA gB rB bA bB) (hb : But S w w') (h1 : ¬ S bA) (h2 : ¬ S bB) : Fb w' okA okB gA rA gB rB bA bB := ⟨cell_but hb h.a0 h1, cell_but hb h.a1 h1, cell_but hb h.b0 h2, cell_but hb h.b1 h2⟩
theorem Fb.later {w w' : World} {okA okB : Bool} {gA rA gB rB bA bB : Nat} (h : Fb w okA okB gA rA gB rB bA bB) (hb : Below w.heap.size w w') : Fb w' okA okB gA rA gB rB bA bB := h.but (S := fun _ => False) (But.of hb) (fun h => h) (fun h => h)
def AlRel (w0 : World) (okA okB : Bool) (A : Ad) (kn mo r b : Nat) (B : Ad) (km no s d bA bB k : Nat) (t : Value) (w : World) : Prop :=
  ∃ i : Nat, i ≤ k ∧ t = .int .i64 (i : Int) ∧ Sd okA w A kn mo r b i ∧ Sd okB w B km no s d i ∧ Fb w okA okB A.g r B.g s bA bB ∧ Below w0.heap.size w0 w
theorem start_pr {w : World} {A : Ad} {kn mo r b : Nat} (hc : Cat w A kn mo (List.replicate mo tz) []) (hf : Rf w r b mo (List.replicate mo tz) [] (fun _ => 0) 0) (hn : ∀ k, A.All k → k ≠ r ∧ k ≠ b) : Pr w A kn mo r b (List.replicate mo tz) [] (fun _ => 0) 0 :=
  ⟨hc, hf, ⟨List.Pairwise.nil, fun x hx => by cases hx⟩, hn⟩
set_option maxRecDepth 100000 in
set_option maxHeartbeats 8000000 in
theorem all_tt (mo kn : Nat) (m1 : 1 ≤ mo) (m2 : mo ≤ 256) (m3 : kn ≤ 64) (no km : Nat) (n1 : 1 ≤ no) (n2 : no ≤ 256) (n3 : km ≤ 64) (a : Option Addr) (k cap : Nat) (f : Nat → Sp) (w : World) (hS : Ss w a k f) (hk : k ≤ 9223372036854775807) :
    Calls Try.prog 5 #[.agg #[.int .i64 (mo : Int), .int .i64 (kn : Int), .int .i64 (no : Int), .int .i64 (km : Int)], .slice a k cap] w fun e w' => e = .returned (.bool true) ∧ Below w.heap.size w w' := by
  have HS := hid hS
  clear hS
  obtain ⟨W, hW⟩ : ∃ W, W = w.alloc (Obj.cells #[.int .i64 (mo : Int), .int .i64 (kn : Int), .int .i64 (no : Int), .int .i64 (km : Int)] 54) := ⟨_, rfl⟩
  have hBW : Below w.heap.size w W := by rw [hW]; exact below1 _ _
  have z0 : W.cell? ⟨w.heap.size, 0, none⟩ = some (.int .i64 (mo : Int)) := by rw [hW]; simp [go_sem]
  have z1 : W.cell? ⟨w.heap.size, 1, none⟩ = some (.int .i64 (kn : Int)) := by rw [hW]; simp [go_sem]
  have z2 : W.cell? ⟨w.heap.size, 2, none⟩ = some (.int .i64 (no : Int)) := by rw [hW]; simp [go_sem]
  have z3 : W.cell? ⟨w.heap.size, 3, none⟩ = some (.int .i64 (km : Int)) := by rw [hW]; simp [go_sem]
  have HBW := hid hBW
  have HZ : Hid (∀ U, Below W.heap.size W U → U.cell? ⟨w.heap.size, 0, none⟩ = some (.int .i64 (mo : Int)) ∧ U.cell? ⟨w.heap.size, 1, none⟩ = some (.int .i64 (kn : Int)) ∧ U.cell? ⟨w.heap.size, 2, none⟩ = some (.int .i64 (no : Int)) ∧ U.cell? ⟨w.heap.size, 3, none⟩ = some (.int .i64 (km : Int))) := fun U hU => ⟨cell_later hU z0, cell_later hU z1, cell_later hU z2, cell_later hU z3⟩
  clear hBW
  go_enter Try.func5, Try.ntmps5
  go_upto_region 1 with fail
  rw [← hW]
  clear hW
  go_upto_region 2 with (first | (go_at_call 19; refine (cnew_ok _ mo kn m1 m2 m3).mono ?_; rintro e w1 ⟨A, rfl, hc_, hA_, hb_⟩; have HCA := hid hc_; have HAA := hid hA_; have HBA := hid hb_; clear hc_ hA_ hb_))
  have HXw1 : Hid (Below W.heap.size W w1) := HBA.out
  clear z0 z1 z2 z3
  obtain ⟨z0, z1, z2, z3⟩ := HZ.out _ HXw1.out
  go_upto_region 3 with (first | (go_at_call 20; refine (rnew_ok _ mo kn m1 m2 m3).mono ?_; rintro e w2 ⟨r, b, rfl, hf_, hr_, hb0_, hb_⟩; have HFr := hid hf_; have HRr := hid (And.intro hr_ hb0_); have HBr := hid hb_; clear hf_ hr_ hb0_ hb_))
  have HXw2 : Hid (Below W.heap.size W w2) := below_call HXw1.out HBr.out
  clear z0 z1 z2 z3
  obtain ⟨z0, z1, z2, z3⟩ := HZ.out _ HXw2.out
  go_upto_region 4 with (first | (go_at_call 19; refine (cnew_ok _ no km n1 n2 n3).mono ?_; rintro e w3 ⟨B, rfl, hc_, hA_, hb_⟩; have HCB := hid hc_; have HAB := hid hA_; have HBB := hid hb_; clear hc_ hA_ hb_))
  have HXw3 : Hid (Below W.heap.size W w3) := below_call HXw2.out HBB.out
  clear z0 z1 z2 z3
  obtain ⟨z0, z1, z2, z3⟩ := HZ.out _ HXw3.out
  go_upto_region 5 with (first | (go_at_call 20; refine (rnew_ok _ no km n1 n2 n3).mono ?_; rintro e w4 ⟨s, d, rfl, hf_, hr_, hb0_, hb_⟩; have HFs := hid hf_; have HRs := hid (And.intro hr_ hb0_); have HBs := hid hb_; clear hf_ hr_ hb0_ hb_))
  have HXw4 : Hid (Below W.heap.size W w4) := below_call HXw3.out HBs.out
  clear z0 z1 z2 z3
  obtain ⟨z0, z1, z2, z3⟩ := HZ.out _ HXw4.out
  clear z0 z1 z2 z3
  go_upto_region 7 with (first | (go_at_call 8; refine (known_any _).mono ?_; rintro e w5 ⟨rfl, hb5⟩; have HB5 := hid hb5; clear hb5))
  have HX5 : Hid (Below W.heap.size W w5) := below_call HXw4.out HB5.out
  obtain ⟨W6, hW6⟩ : ∃ W6, W6 = w5.alloc (Obj.cells #[.pointer (some ⟨A.g, 0, none⟩), .pointer (some ⟨r, 0, none⟩)] 61) := ⟨_, rfl⟩
  have hb6 : Below w5.heap.size w5 W6 := by rw [hW6]; exact below1 _ _
  have y0 : W6.cell? ⟨w5.heap.size, 0, none⟩ = some (.pointer (some ⟨A.g, 0, none⟩)) := by rw [hW6]; simp [go_sem]
  have y1 : W6.cell? ⟨w5.heap.size, 1, none⟩ = some (.pointer (some ⟨r, 0, none⟩)) := by rw [hW6]; simp [go_sem]
  have hs6 : Hid (W6.heap.size = w5.heap.size + 1) := by rw [hW6]; unfold Hid; simp
  go_upto_region 8 with fail
  rw [← hW6]
  clear hW6
  obtain ⟨W7, hW7⟩ : ∃ W7, W7 = W6.alloc (Obj.cells #[.pointer (some ⟨B.g, 0, none⟩), .pointer (some ⟨s, 0, none⟩)] 61) := ⟨_, rfl⟩
  have hb7 : Below W6.heap.size W6 W7 := by rw [hW7]; exact below1 _ _
  have hb67 := below_call hb6 hb7
  have HFB : Hid (Fb W7 true true A.g r B.g s w5.heap.size W6.heap.size) := ⟨cell_later hb7 y0, cell_later hb7 y1, by rw [hW7]; simp [go_sem, ptV], by rw [hW7]; simp [go_sem, ptV]⟩
  have hs7 : Hid (W7.heap.size = W6.heap.size + 1) := by rw [hW7]; unfold Hid; simp
  go_upto_region 9 with fail
  rw [← hW7]
  have HB7 : Hid (Below w.heap.size w W7) := below_call HBW.out (below_call HX5.out hb67)
  have hsw : w.heap.size ≤ W.heap.size := HBW.out.size
  have hl2 : Below w2.heap.size w2 W7 := below_call (below_call (below_call HBB.out HBs.out) HB5.out) hb67
  have HSA : Hid (Sd true W7 A kn mo r b 0) := fun _ => ⟨_, _, _, _, (start_pr (HCA.out.later HBr.out) HFr.out (fun k hk => by have := HCA.out.lt k hk; have := HRr.out; omega)).later hl2, Nat.le_refl _⟩
  have hAlo : ∀ k, PS A r b k → W.heap.size ≤ k ∧ k < w2.heap.size := by
    rintro k (hk | rfl | rfl)
    · have := HAA.out k hk; have := HCA.out.lt k hk; have := HBr.out.size; omega
    · have := HRr.out; have := HFr.out.ltr; have := HBA.out.size; omega
    · have := HRr.out; have := HFr.out.ltb; have := HBA.out.size; omega
  have hl4 : Below w4.heap.size w4 W7 := below_call HB5.out hb67
  have HSB : Hid (Sd true W7 B km no s d 0) := fun _ => ⟨_, _, _, _, (start_pr (HCB.out.later HBs.out) HFs.out (fun k hk => by have := HCB.out.lt k hk; have := HRs.out; omega)).later hl4, Nat.le_refl _⟩
  have hBlo : ∀ k, PS B s d k → w2.heap.size ≤ k ∧ k < w4.heap.size := by
    rintro k (hk | rfl | rfl)
    · have := HAB.out k hk; have := HCB.out.lt k hk; have := HBs.out.size; omega
    · have := HRs.out; have := HFs.out.ltr; have := HBB.out.size; omega
    · have := HRs.out; have := HFs.out.ltb; have := HBB.out.size; omega
  have HFX : Hid (Fx w true true A r b B s d w5.heap.size W6.heap.size) := ⟨fun _ k hk => by have := hAlo k hk; have := HBA.out.size; have := HBr.out.size; have := HBB.out.size; have := HBs.out.size; have := HB5.out.size; have := hs6.out; omega, fun _ k hk => by have := hBlo k hk; have := HBA.out.size; have := HBr.out.size; have := HBB.out.size; have := HBs.out.size; have := HB5.out.size; have := hs6.out; omega, fun _ _ k h1 h2 => by have := hAlo k h1; have := hBlo k h2; omega⟩
  have hlA : w5.heap.size < W7.heap.size := by have := hs6.out; have := hs7.out; omega
  have hlB : W6.heap.size < W7.heap.size := by have := hs7.out; omega
  clear hW7 y0 y1 hb6 hb7 hb67 hs6 hs7 hsw
  clear hl2 hAlo HCA HAA HBA HFr HRr HBr HXw1 HXw2 hl4 hBlo HCB HAB HBB HFs HRs HBs HXw3 HXw4 HX5 HB5 HZ HBW
  generalize w5.heap.size = bA at *
  generalize W6.heap.size = bB at *
  go_upto_region 10 with fail
  go_loopw [15] (AlRel w true true A kn mo r b B km no s d bA bB k) (fun t _ => k - (intOf t).toNat)
  case atStart => exact ⟨0, Nat.zero_le _, rfl, HSA.out, HSB.out, HFB.out, HB7.out⟩
  case round =>
    clear HSA HSB HFB HB7
    obtain ⟨i, hi, rfl, hSA, hSB, hFB, hB⟩ := hrel
    have HSA := hid hSA
    have HSB := hid hSB
    have HFB := hid hFB
    have HB := hid hB
    clear hSA hSB hFB hB
    by_cases hlt : i < k
    · obtain ⟨sb, so, rfl, hc⟩ := HS.out.at_ (by omega)
      have hok := HS.out.ok i hlt
      have HSC := hid (hc i hlt)
      clear hc
      generalize f i = sp at *
      obtain ⟨sec, kd, sn, ⟨sO, shi, slo⟩, sr⟩ := sp
      have HSU : Hid (∀ U, Below w.heap.size w U → U.cell? ⟨sb, so + i * 7, none⟩ = some (.bool sec) ∧ U.cell? ⟨sb, so + i * 7 + 1, none⟩ = some (.int .i64 kd) ∧ U.cell? ⟨sb, so + i * 7 + 2, none⟩ = some (.int .i64 sn) ∧ U.cell? ⟨sb, so + i * 7 + 3, none⟩ = some (.int .i64 sO) ∧ U.cell? ⟨sb, so + i * 7 + 4, none⟩ = some (.int .u64 (shi : Int)) ∧ U.cell? ⟨sb, so + i * 7 + 5, none⟩ = some (.int .u64 (slo : Int)) ∧ U.cell? ⟨sb, so + i * 7 + 6, none⟩ = some (.int .i64 sr)) := fun U hU => by
        obtain ⟨c0, c1, c2, c3, c4, c5, c6⟩ := HSC.out.later hU
        exact ⟨c0, c1, c2, c3, c4, c5, c6⟩
      have s0 := (HSU.out _ HB.out).1
      cases sec
      · obtain ⟨X, l, wh, ev, hP, hev⟩ := HSA.out rfl
        have HP := hid hP
        clear hP
        have HSS : Hid (∀ U, But (PS A r b) wr U → (U.cell? ⟨bA, 0, none⟩ = some (.pointer (some ⟨A.g, 0, none⟩)) ∧ U.cell? ⟨bA, 1, none⟩ = some (.pointer (some ⟨r, 0, none⟩)) ∧ U.cell? ⟨sb, so + i * 7, none⟩ = some (.bool false) ∧ U.cell? ⟨sb, so + i * 7 + 1, none⟩ = some (.int .i64 kd) ∧ U.cell? ⟨sb, so + i * 7 + 2, none⟩ = some (.int .i64 sn) ∧ U.cell? ⟨sb, so + i * 7 + 3, none⟩ = some (.int .i64 sO) ∧ U.cell? ⟨sb, so + i * 7 + 4, none⟩ = some (.int .u64 (shi : Int)) ∧ U.cell? ⟨sb, so + i * 7 + 5, none⟩ = some (.int .u64 (slo : Int)) ∧ U.cell? ⟨sb, so + i * 7 + 6, none⟩ = some (.int .i64 sr)) ∧ But (PS A r b) wr U) := fun U hU => by
          have h7 := HSU.out U (But.below HB.out hU (fun q hq => (HFX.out.aa rfl q hq).1))
          have hfb := HFB.out.but hU (fun e => (HFX.out.aa rfl _ e).2.1 rfl) (fun e => (HFX.out.aa rfl _ e).2.2 rfl)
          exact ⟨⟨hfb.a0, hfb.a1, h7⟩, hU⟩
        go_upto_region 16 with fail
        clear s0
        go_region_held3 (fun U => (U.cell? ⟨bA, 0, none⟩ = some (.pointer (some ⟨A.g, 0, none⟩)) ∧ U.cell? ⟨bA, 1, none⟩ = some (.pointer (some ⟨r, 0, none⟩)) ∧ U.cell? ⟨sb, so + i * 7, none⟩ = some (.bool false) ∧ U.cell? ⟨sb, so + i * 7 + 1, none⟩ = some (.int .i64 kd) ∧ U.cell? ⟨sb, so + i * 7 + 2, none⟩ = some (.int .i64 sn) ∧ U.cell? ⟨sb, so + i * 7 + 3, none⟩ = some (.int .i64 sO) ∧ U.cell? ⟨sb, so + i * 7 + 4, none⟩ = some (.int .u64 (shi : Int)) ∧ U.cell? ⟨sb, so + i * 7 + 5, none⟩ = some (.int .u64 (slo : Int)) ∧ U.cell? ⟨sb, so + i * 7 + 6, none⟩ = some (.int .i64 sr)) ∧ But (PS A r b) wr U) (first | exact HSS.out _ hb7.out | exact HSS.out _ (But.of (Below.refl _ _).drew)) (first
          | (go_at_call 21; refine (step_any (HP.out.later (Below.refl _ _).drew) ⟨false, kd, sn, (sO, shi, slo), sr⟩ hok (by omega)).mono ?_; rintro e w7 ⟨rfl, L7_⟩; have L7 := hid L7_; have hb7 : Hid (But (PS A r b) wr w7) := (by unfold Hid; obtain ⟨_, _, _, _, _, _, b7⟩ := L7_; exact (But.of (Below.refl wr.heap.size wr).drew).trans b7); clear L7_))
        have HNX : Hid (AlRel w true true A kn mo r b B km no s d bA bB k (.int .i64 ((i + 1 : Nat) : Int)) w7) := by
          obtain ⟨X', l', wh', ev', hp7, hev', -⟩ := L7.out
          have hb7 := hb7.out
          exact ⟨i + 1, by omega, rfl, (fun _ => ⟨X', l', wh', ev', hp7, by omega⟩), (HSB.out.but hb7 (fun _ k hk hk2 => HFX.out.ap rfl rfl k hk2 hk)), HFB.out.but hb7 (fun e => (HFX.out.aa rfl _ e).2.1 rfl) (fun e => (HFX.out.aa rfl _ e).2.2 rfl), But.below HB.out hb7 (fun q hq => (HFX.out.aa rfl q hq).1)⟩
        clear L7 hb7 HSS
        have HU7 : Hid (Below w.heap.size w w7) := by obtain ⟨_, _, _, _, _, _, hx⟩ := HNX.out; exact hx
        have s0 := (HSU.out _ HU7.out).1
        go_wp2
        refine ⟨?_, by simp [intOf]; omega⟩
        have := HNX.out
        simpa using this
      · obtain ⟨X, l, wh, ev, hP, hev⟩ := HSB.out rfl
        have HP := hid hP
        clear hP
        have HSS : Hid (∀ U, But (PS B s d) wr U → (U.cell? ⟨bB, 0, none⟩ = some (.pointer (some ⟨B.g, 0, none⟩)) ∧ U.cell? ⟨bB, 1, none⟩ = some (.pointer (some ⟨s, 0, none⟩)) ∧ U.cell? ⟨sb, so + i * 7, none⟩ = some (.bool true) ∧ U.cell? ⟨sb, so + i * 7 + 1, none⟩ = some (.int .i64 kd) ∧ U.cell? ⟨sb, so + i * 7 + 2, none⟩ = some (.int .i64 sn) ∧ U.cell? ⟨sb, so + i * 7 + 3, none⟩ = some (.int .i64 sO) ∧ U.cell? ⟨sb, so + i * 7 + 4, none⟩ = some (.int .u64 (shi : Int)) ∧ U.cell? ⟨sb, so + i * 7 + 5, none⟩ = some (.int .u64 (slo : Int)) ∧ U.cell? ⟨sb, so + i * 7 + 6, none⟩ = some (.int .i64 sr)) ∧ But (PS B s d) wr U) := fun U hU => by
          have h7 := HSU.out U (But.below HB.out hU (fun q hq => (HFX.out.bb rfl q hq).1))
          have hfb := HFB.out.but hU (fun e => (HFX.out.bb rfl _ e).2.1 rfl) (fun e => (HFX.out.bb rfl _ e).2.2 rfl)
          exact ⟨⟨hfb.b0, hfb.b1, h7⟩, hU⟩
        go_upto_region 14 with fail
        clear s0
        go_region_held3 (fun U => (U.cell? ⟨bB, 0, none⟩ = some (.pointer (some ⟨B.g, 0, none⟩)) ∧ U.cell? ⟨bB, 1, none⟩ = some (.pointer (some ⟨s, 0, none⟩)) ∧ U.cell? ⟨sb, so + i * 7, none⟩ = some (.bool true) ∧ U.cell? ⟨sb, so + i * 7 + 1, none⟩ = some (.int .i64 kd) ∧ U.cell? ⟨sb, so + i * 7 + 2, none⟩ = some (.int .i64 sn) ∧ U.cell? ⟨sb, so + i * 7 + 3, none⟩ = some (.int .i64 sO) ∧ U.cell? ⟨sb, so + i * 7 + 4, none⟩ = some (.int .u64 (shi : Int)) ∧ U.cell? ⟨sb, so + i * 7 + 5, none⟩ = some (.int .u64 (slo : Int)) ∧ U.cell? ⟨sb, so + i * 7 + 6, none⟩ = some (.int .i64 sr)) ∧ But (PS B s d) wr U) (first | exact HSS.out _ hb7.out | exact HSS.out _ (But.of (Below.refl _ _).drew)) (first
          | (go_at_call 21; refine (step_any (HP.out.later (Below.refl _ _).drew) ⟨true, kd, sn, (sO, shi, slo), sr⟩ hok (by omega)).mono ?_; rintro e w7 ⟨rfl, L7_⟩; have L7 := hid L7_; have hb7 : Hid (But (PS B s d) wr w7) := (by unfold Hid; obtain ⟨_, _, _, _, _, _, b7⟩ := L7_; exact (But.of (Below.refl wr.heap.size wr).drew).trans b7); clear L7_))
        have HNX : Hid (AlRel w true true A kn mo r b B km no s d bA bB k (.int .i64 ((i + 1 : Nat) : Int)) w7) := by
          obtain ⟨X', l', wh', ev', hp7, hev', -⟩ := L7.out
          have hb7 := hb7.out
          exact ⟨i + 1, by omega, rfl, (HSA.out.but hb7 (fun _ k hk hk2 => HFX.out.ap rfl rfl k hk hk2)), (fun _ => ⟨X', l', wh', ev', hp7, by omega⟩), HFB.out.but hb7 (fun e => (HFX.out.bb rfl _ e).2.1 rfl) (fun e => (HFX.out.bb rfl _ e).2.2 rfl), But.below HB.out hb7 (fun q hq => (HFX.out.bb rfl q hq).1)⟩
        clear L7 hb7 HSS
        have HU7 : Hid (Below w.heap.size w w7) := by obtain ⟨_, _, _, _, _, _, hx⟩ := HNX.out; exact hx
        have s0 := (HSU.out _ HU7.out).1
        go_wp2
        refine ⟨?_, by simp [intOf]; omega⟩
        have := HNX.out
        simpa using this
    · obtain rfl : i = k := by omega
      have x0 : wr.cell? ⟨bA, 0, none⟩ = some (.pointer (some ⟨A.g, 0, none⟩)) := HFB.out.a0
      have x1 : wr.cell? ⟨bA, 1, none⟩ = some (.pointer (some ⟨r, 0, none⟩)) := HFB.out.a1
      have x2 : wr.cell? ⟨bB, 0, none⟩ = some (.pointer (some ⟨B.g, 0, none⟩)) := HFB.out.b0
      have x3 : wr.cell? ⟨bB, 1, none⟩ = some (.pointer (some ⟨s, 0, none⟩)) := HFB.out.b1
      obtain ⟨X, l, wh, ev, hP, -⟩ := HSA.out rfl
      have hwa := hid (whole_any hP)
      unfold prV at hwa
      clear hP
      have hwb : Hid (∀ U, Below wr.heap.size wr U → Calls Try.prog 22 #[prV B.g s] U fun e w' => e = .returned (.bool true) ∧ Below U.heap.size U w') := fun U hU => by
        obtain ⟨X, l, wh, ev, hP, -⟩ := HSB.out rfl
        exact whole_any (hP.later hU)
      unfold prV at hwb
      go_wp2_with (first
        | (go_at_call 22; refine (hwb.out _ hb8.out).mono ?_; rintro e w9 ⟨rfl, hb9_⟩; have hb9 := hid (below_call hb8.out hb9_); clear hb9_)
        | (go_at_call 22; refine hwa.out.mono ?_; rintro e w8 ⟨rfl, hb8_⟩; have hb8 := hid hb8_; clear hb8_; have x4 := cell_later hb8.out x2; have x5 := cell_later hb8.out x3))
      go_ret
      exact ⟨rfl, below_call HB.out hb9.out⟩
open Go.RowKit Go.Shelf H
set_option linter.unusedVariables false
set_option maxRecDepth 100000 in
set_option maxHeartbeats 8000000 in
theorem all_tf (mo kn : Nat) (m1 : 1 ≤ mo) (m2 : mo ≤ 256) (m3 : kn ≤ 64) (no km : Int) (hbb : no < 1 ∨ 256 < no ∨ km < 0 ∨ 64 < km) (a : Option Addr) (k cap : Nat) (f : Nat → Sp) (w : World) (hS : Ss w a k f) (hk : k ≤ 9223372036854775807) :
    Calls Try.prog 5 #[.agg #[.int .i64 (mo : Int), .int .i64 (kn : Int), .int .i64 (no : Int), .int .i64 (km : Int)], .slice a k cap] w fun e w' => e = .returned (.bool true) ∧ Below w.heap.size w w' := by
  have HS := hid hS
  clear hS
  obtain ⟨W, hW⟩ : ∃ W, W = w.alloc (Obj.cells #[.int .i64 (mo : Int), .int .i64 (kn : Int), .int .i64 (no : Int), .int .i64 (km : Int)] 54) := ⟨_, rfl⟩
  have hBW : Below w.heap.size w W := by rw [hW]; exact below1 _ _
  have z0 : W.cell? ⟨w.heap.size, 0, none⟩ = some (.int .i64 (mo : Int)) := by rw [hW]; simp [go_sem]
  have z1 : W.cell? ⟨w.heap.size, 1, none⟩ = some (.int .i64 (kn : Int)) := by rw [hW]; simp [go_sem]
  have z2 : W.cell? ⟨w.heap.size, 2, none⟩ = some (.int .i64 (no : Int)) := by rw [hW]; simp [go_sem]
  have z3 : W.cell? ⟨w.heap.size, 3, none⟩ = some (.int .i64 (km : Int)) := by rw [hW]; simp [go_sem]
  have HBW := hid hBW
  have HZ : Hid (∀ U, Below W.heap.size W U → U.cell? ⟨w.heap.size, 0, none⟩ = some (.int .i64 (mo : Int)) ∧ U.cell? ⟨w.heap.size, 1, none⟩ = some (.int .i64 (kn : Int)) ∧ U.cell? ⟨w.heap.size, 2, none⟩ = some (.int .i64 (no : Int)) ∧ U.cell? ⟨w.heap.size, 3, none⟩ = some (.int .i64 (km : Int))) := fun U hU => ⟨cell_later hU z0, cell_later hU z1, cell_later hU z2, cell_later hU z3⟩
  clear hBW
  go_enter Try.func5, Try.ntmps5
  go_upto_region 1 with fail
  rw [← hW]
  clear hW
  go_upto_region 2 with (first | (go_at_call 19; refine (cnew_ok _ mo kn m1 m2 m3).mono ?_; rintro e w1 ⟨A, rfl, hc_, hA_, hb_⟩; have HCA := hid hc_; have HAA := hid hA_; have HBA := hid hb_; clear hc_ hA_ hb_))
  have HXw1 : Hid (Below W.heap.size W w1) := HBA.out
  clear z0 z1 z2 z3
  obtain ⟨z0, z1, z2, z3⟩ := HZ.out _ HXw1.out
  go_upto_region 3 with (first | (go_at_call 20; refine (rnew_ok _ mo kn m1 m2 m3).mono ?_; rintro e w2 ⟨r, b, rfl, hf_, hr_, hb0_, hb_⟩; have HFr := hid hf_; have HRr := hid (And.intro hr_ hb0_); have HBr := hid hb_; clear hf_ hr_ hb0_ hb_))
  have HXw2 : Hid (Below W.heap.size W w2) := below_call HXw1.out HBr.out
  clear z0 z1 z2 z3
  obtain ⟨z0, z1, z2, z3⟩ := HZ.out _ HXw2.out
  go_upto_region 4 with (first | (go_at_call 19; refine (cnew_bad _ no km hbb).mono ?_; rintro e w9 ⟨rfl, hw9⟩; obtain rfl := hw9.symm; clear hw9))
  go_upto_region 5 with (first | (go_at_call 20; refine (rnew_bad _ no km hbb).mono ?_; rintro e w9 ⟨rfl, hw9⟩; obtain rfl := hw9.symm; clear hw9))
  clear z0 z1 z2 z3
  go_upto_region 7 with (first | (go_at_call 8; refine (known_any _).mono ?_; rintro e w5 ⟨rfl, hb5⟩; have HB5 := hid hb5; clear hb5))
  have HX5 : Hid (Below W.heap.size W w5) := below_call HXw2.out HB5.out
  obtain ⟨B, s, d, no', km', -⟩ : ∃ (A : Ad) (r b mo' kn' : Nat), True := ⟨⟨0, 0, 0, 0, 0, 0, 0⟩, 0, 0, 0, 0, trivial⟩
  obtain ⟨W6, hW6⟩ : ∃ W6, W6 = w5.alloc (Obj.cells #[.pointer (some ⟨A.g, 0, none⟩), .pointer (some ⟨r, 0, none⟩)] 61) := ⟨_, rfl⟩
  have hb6 : Below w5.heap.size w5 W6 := by rw [hW6]; exact below1 _ _
  have y0 : W6.cell? ⟨w5.heap.size, 0, none⟩ = some (.pointer (some ⟨A.g, 0, none⟩)) := by rw [hW6]; simp [go_sem]
  have y1 : W6.cell? ⟨w5.heap.size, 1, none⟩ = some (.pointer (some ⟨r, 0, none⟩)) := by rw [hW6]; simp [go_sem]
  have hs6 : Hid (W6.heap.size = w5.heap.size + 1) := by rw [hW6]; unfold Hid; simp
  go_upto_region 8 with fail
  rw [← hW6]
  clear hW6
  obtain ⟨W7, hW7⟩ : ∃ W7, W7 = W6.alloc (Obj.cells #[.pointer none, .pointer none] 61) := ⟨_, rfl⟩
  have hb7 : Below W6.heap.size W6 W7 := by rw [hW7]; exact below1 _ _
  have hb67 := below_call hb6 hb7
  have HFB : Hid (Fb W7 true false A.g r B.g s w5.heap.size W6.heap.size) := ⟨cell_later hb7 y0, cell_later hb7 y1, by rw [hW7]; simp [go_sem, ptV], by rw [hW7]; simp [go_sem, ptV]⟩
  have hs7 : Hid (W7.heap.size = W6.heap.size + 1) := by rw [hW7]; unfold Hid; simp
  go_upto_region 9 with fail
  rw [← hW7]
  have HB7 : Hid (Below w.heap.size w W7) := below_call HBW.out (below_call HX5.out hb67)
  have hsw : w.heap.size ≤ W.heap.size := HBW.out.size
  have hl2 : Below w2.heap.size w2 W7 := below_call HB5.out hb67
  have HSA : Hid (Sd true W7 A kn mo r b 0) := fun _ => ⟨_, _, _, _, (start_pr (HCA.out.later HBr.out) HFr.out (fun k hk => by have := HCA.out.lt k hk; have := HRr.out; omega)).later hl2, Nat.le_refl _⟩
  have hAlo : ∀ k, PS A r b k → W.heap.size ≤ k ∧ k < w2.heap.size := by
    rintro k (hk | rfl | rfl)
    · have := HAA.out k hk; have := HCA.out.lt k hk; have := HBr.out.size; omega
    · have := HRr.out; have := HFr.out.ltr; have := HBA.out.size; omega
    · have := HRr.out; have := HFr.out.ltb; have := HBA.out.size; omega
  have HSB : Hid (Sd false W7 B km' no' s d 0) := fun h => by cases h
  have HFX : Hid (Fx w true false A r b B s d w5.heap.size W6.heap.size) := ⟨fun _ k hk => by have := hAlo k hk; have := HBA.out.size; have := HBr.out.size; have := HB5.out.size; have := hs6.out; omega, (fun h => by cases h), (fun _ h => by cases h)⟩
  have hlA : w5.heap.size < W7.heap.size := by have := hs6.out; have := hs7.out; omega
  have hlB : W6.heap.size < W7.heap.size := by have := hs7.out; omega
  clear hW7 y0 y1 hb6 hb7 hb67 hs6 hs7 hsw
  clear hl2 hAlo HCA HAA HBA HFr HRr HBr HXw1 HXw2 HX5 HB5 HZ HBW
  generalize w5.heap.size = bA at *
  generalize W6.heap.size = bB at *
  go_upto_region 10 with fail
  go_loopw [15] (AlRel w true false A kn mo r b B km' no' s d bA bB k) (fun t _ => k - (intOf t).toNat)
  case atStart => exact ⟨0, Nat.zero_le _, rfl, HSA.out, HSB.out, HFB.out, HB7.out⟩
  case round =>
    clear HSA HSB HFB HB7
    obtain ⟨i, hi, rfl, hSA, hSB, hFB, hB⟩ := hrel
    have HSA := hid hSA
    have HSB := hid hSB
    have HFB := hid hFB
    have HB := hid hB
    clear hSA hSB hFB hB
    by_cases hlt : i < k
    · obtain ⟨sb, so, rfl, hc⟩ := HS.out.at_ (by omega)
      have hok := HS.out.ok i hlt
      have HSC := hid (hc i hlt)
      clear hc
      generalize f i = sp at *
      obtain ⟨sec, kd, sn, ⟨sO, shi, slo⟩, sr⟩ := sp
      have HSU : Hid (∀ U, Below w.heap.size w U → U.cell? ⟨sb, so + i * 7, none⟩ = some (.bool sec) ∧ U.cell? ⟨sb, so + i * 7 + 1, none⟩ = some (.int .i64 kd) ∧ U.cell? ⟨sb, so + i * 7 + 2, none⟩ = some (.int .i64 sn) ∧ U.cell? ⟨sb, so + i * 7 + 3, none⟩ = some (.int .i64 sO) ∧ U.cell? ⟨sb, so + i * 7 + 4, none⟩ = some (.int .u64 (shi : Int)) ∧ U.cell? ⟨sb, so + i * 7 + 5, none⟩ = some (.int .u64 (slo : Int)) ∧ U.cell? ⟨sb, so + i * 7 + 6, none⟩ = some (.int .i64 sr)) := fun U hU => by
        obtain ⟨c0, c1, c2, c3, c4, c5, c6⟩ := HSC.out.later hU
        exact ⟨c0, c1, c2, c3, c4, c5, c6⟩
      have s0 := (HSU.out _ HB.out).1
      cases sec
      · obtain ⟨X, l, wh, ev, hP, hev⟩ := HSA.out rfl
        have HP := hid hP
        clear hP
        have HSS : Hid (∀ U, But (PS A r b) wr U → (U.cell? ⟨bA, 0, none⟩ = some (.pointer (some ⟨A.g, 0, none⟩)) ∧ U.cell? ⟨bA, 1, none⟩ = some (.pointer (some ⟨r, 0, none⟩)) ∧ U.cell? ⟨sb, so + i * 7, none⟩ = some (.bool false) ∧ U.cell? ⟨sb, so + i * 7 + 1, none⟩ = some (.int .i64 kd) ∧ U.cell? ⟨sb, so + i * 7 + 2, none⟩ = some (.int .i64 sn) ∧ U.cell? ⟨sb, so + i * 7 + 3, none⟩ = some (.int .i64 sO) ∧ U.cell? ⟨sb, so + i * 7 + 4, none⟩ = some (.int .u64 (shi : Int)) ∧ U.cell? ⟨sb, so + i * 7 + 5, none⟩ = some (.int .u64 (slo : Int)) ∧ U.cell? ⟨sb, so + i * 7 + 6, none⟩ = some (.int .i64 sr)) ∧ But (PS A r b) wr U) := fun U hU => by
          have h7 := HSU.out U (But.below HB.out hU (fun q hq => (HFX.out.aa rfl q hq).1))
          have hfb := HFB.out.but hU (fun e => (HFX.out.aa rfl _ e).2.1 rfl) (fun e => (HFX.out.aa rfl _ e).2.2 rfl)
          exact ⟨⟨hfb.a0, hfb.a1, h7⟩, hU⟩
        go_upto_region 16 with fail
        clear s0
        go_region_held3 (fun U => (U.cell? ⟨bA, 0, none⟩ = some (.pointer (some ⟨A.g, 0, none⟩)) ∧ U.cell? ⟨bA, 1, none⟩ = some (.pointer (some ⟨r, 0, none⟩)) ∧ U.cell? ⟨sb, so + i * 7, none⟩ = some (.bool false) ∧ U.cell? ⟨sb, so + i * 7 + 1, none⟩ = some (.int .i64 kd) ∧ U.cell? ⟨sb, so + i * 7 + 2, none⟩ = some (.int .i64 sn) ∧ U.cell? ⟨sb, so + i * 7 + 3, none⟩ = some (.int .i64 sO) ∧ U.cell? ⟨sb, so + i * 7 + 4, none⟩ = some (.int .u64 (shi : Int)) ∧ U.cell? ⟨sb, so + i * 7 + 5, none⟩ = some (.int .u64 (slo : Int)) ∧ U.cell? ⟨sb, so + i * 7 + 6, none⟩ = some (.int .i64 sr)) ∧ But (PS A r b) wr U) (first | exact HSS.out _ hb7.out | exact HSS.out _ (But.of (Below.refl _ _).drew)) (first
          | (go_at_call 21; refine (step_any (HP.out.later (Below.refl _ _).drew) ⟨false, kd, sn, (sO, shi, slo), sr⟩ hok (by omega)).mono ?_; rintro e w7 ⟨rfl, L7_⟩; have L7 := hid L7_; have hb7 : Hid (But (PS A r b) wr w7) := (by unfold Hid; obtain ⟨_, _, _, _, _, _, b7⟩ := L7_; exact (But.of (Below.refl wr.heap.size wr).drew).trans b7); clear L7_))
        have HNX : Hid (AlRel w true false A kn mo r b B km' no' s d bA bB k (.int .i64 ((i + 1 : Nat) : Int)) w7) := by
          obtain ⟨X', l', wh', ev', hp7, hev', -⟩ := L7.out
          have hb7 := hb7.out
          exact ⟨i + 1, by omega, rfl, (fun _ => ⟨X', l', wh', ev', hp7, by omega⟩), (fun h => by cases h), HFB.out.but hb7 (fun e => (HFX.out.aa rfl _ e).2.1 rfl) (fun e => (HFX.out.aa rfl _ e).2.2 rfl), But.below HB.out hb7 (fun q hq => (HFX.out.aa rfl q hq).1)⟩
        clear L7 hb7 HSS
        have HU7 : Hid (Below w.heap.size w w7) := by obtain ⟨_, _, _, _, _, _, hx⟩ := HNX.out; exact hx
        have s0 := (HSU.out _ HU7.out).1
        go_wp2
        refine ⟨?_, by simp [intOf]; omega⟩
        have := HNX.out
        simpa using this
      · go_wp2
        exact ⟨⟨i + 1, by omega, by go_num, HSA.out.up, HSB.out.up, HFB.out, HB.out⟩, by simp [intOf]; omega⟩
    · obtain rfl : i = k := by omega
      have x0 : wr.cell? ⟨bA, 0, none⟩ = some (.pointer (some ⟨A.g, 0, none⟩)) := HFB.out.a0
      have x1 : wr.cell? ⟨bA, 1, none⟩ = some (.pointer (some ⟨r, 0, none⟩)) := HFB.out.a1
      have x2 : wr.cell? ⟨bB, 0, none⟩ = some (.pointer none) := HFB.out.b0
      have x3 : wr.cell? ⟨bB, 1, none⟩ = some (.pointer none) := HFB.out.b1
      obtain ⟨X, l, wh, ev, hP, -⟩ := HSA.out rfl
      have hwa := hid (whole_any hP)
      unfold prV at hwa
      clear hP
      go_wp2_with (first
        | (go_at_call 22; refine hwa.out.mono ?_; rintro e w8 ⟨rfl, hb8_⟩; have hb8 := hid hb8_; clear hb8_))
      go_ret
      exact ⟨rfl, below_call HB.out hb8.out⟩
set_option maxRecDepth 100000 in
set_option maxHeartbeats 8000000 in
theorem all_ft (mo kn : Int) (hba : mo < 1 ∨ 256 < mo ∨ kn < 0 ∨ 64 < kn) (no km : Nat) (n1 : 1 ≤ no) (n2 : no ≤ 256) (n3 : km ≤ 64) (a : Option Addr) (k cap : Nat) (f : Nat → Sp) (w : World) (hS : Ss w a k f) (hk : k ≤ 9223372036854775807) :
    Calls Try.prog 5 #[.agg #[.int .i64 (mo : Int), .int .i64 (kn : Int), .int .i64 (no : Int), .int .i64 (km : Int)], .slice a k cap] w fun e w' => e = .returned (.bool true) ∧ Below w.heap.size w w' := by
  have HS := hid hS
  clear hS
  obtain ⟨W, hW⟩ : ∃ W, W = w.alloc (Obj.cells #[.int .i64 (mo : Int), .int .i64 (kn : Int), .int .i64 (no : Int), .int .i64 (km : Int)] 54) := ⟨_, rfl⟩
  have hBW : Below w.heap.size w W := by rw [hW]; exact below1 _ _
  have z0 : W.cell? ⟨w.heap.size, 0, none⟩ = some (.int .i64 (mo : Int)) := by rw [hW]; simp [go_sem]
  have z1 : W.cell? ⟨w.heap.size, 1, none⟩ = some (.int .i64 (kn : Int)) := by rw [hW]; simp [go_sem]
  have z2 : W.cell? ⟨w.heap.size, 2, none⟩ = some (.int .i64 (no : Int)) := by rw [hW]; simp [go_sem]
  have z3 : W.cell? ⟨w.heap.size, 3, none⟩ = some (.int .i64 (km : Int)) := by rw [hW]; simp [go_sem]
  have HBW := hid hBW
  have HZ : Hid (∀ U, Below W.heap.size W U → U.cell? ⟨w.heap.size, 0, none⟩ = some (.int .i64 (mo : Int)) ∧ U.cell? ⟨w.heap.size, 1, none⟩ = some (.int .i64 (kn : Int)) ∧ U.cell? ⟨w.heap.size, 2, none⟩ = some (.int .i64 (no : Int)) ∧ U.cell? ⟨w.heap.size, 3, none⟩ = some (.int .i64 (km : Int))) := fun U hU => ⟨cell_later hU z0, cell_later hU z1, cell_later hU z2, cell_later hU z3⟩
  clear hBW
  go_enter Try.func5, Try.ntmps5
  go_upto_region 1 with fail
  rw [← hW]
  clear hW
  go_upto_region 2 with (first | (go_at_call 19; refine (cnew_bad _ mo kn hba).mono ?_; rintro e w9 ⟨rfl, hw9⟩; obtain rfl := hw9.symm; clear hw9))
  go_upto_region 3 with (first | (go_at_call 20; refine (rnew_bad _ mo kn hba).mono ?_; rintro e w9 ⟨rfl, hw9⟩; obtain rfl := hw9.symm; clear hw9))
  go_upto_region 4 with (first | (go_at_call 19; refine (cnew_ok _ no km n1 n2 n3).mono ?_; rintro e w3 ⟨B, rfl, hc_, hA_, hb_⟩; have HCB := hid hc_; have HAB := hid hA_; have HBB := hid hb_; clear hc_ hA_ hb_))
  have HXw3 : Hid (Below W.heap.size W w3) := HBB.out
  clear z0 z1 z2 z3
  obtain ⟨z0, z1, z2, z3⟩ := HZ.out _ HXw3.out
  go_upto_region 5 with (first | (go_at_call 20; refine (rnew_ok _ no km n1 n2 n3).mono ?_; rintro e w4 ⟨s, d, rfl, hf_, hr_, hb0_, hb_⟩; have HFs := hid hf_; have HRs := hid (And.intro hr_ hb0_); have HBs := hid hb_; clear hf_ hr_ hb0_ hb_))
  have HXw4 : Hid (Below W.heap.size W w4) := below_call HXw3.out HBs.out
  clear z0 z1 z2 z3
  obtain ⟨z0, z1, z2, z3⟩ := HZ.out _ HXw4.out
  clear z0 z1 z2 z3
  go_upto_region 7 with (first | (go_at_call 8; refine (known_any _).mono ?_; rintro e w5 ⟨rfl, hb5⟩; have HB5 := hid hb5; clear hb5))
  have HX5 : Hid (Below W.heap.size W w5) := below_call HXw4.out HB5.out
  obtain ⟨A, r, b, mo', kn', -⟩ : ∃ (A : Ad) (r b mo' kn' : Nat), True := ⟨⟨0, 0, 0, 0, 0, 0, 0⟩, 0, 0, 0, 0, trivial⟩
  obtain ⟨W6, hW6⟩ : ∃ W6, W6 = w5.alloc (Obj.cells #[.pointer none, .pointer none] 61) := ⟨_, rfl⟩
  have hb6 : Below w5.heap.size w5 W6 := by rw [hW6]; exact below1 _ _
  have y0 : W6.cell? ⟨w5.heap.size, 0, none⟩ = some (.pointer none) := by rw [hW6]; simp [go_sem]
  have y1 : W6.cell? ⟨w5.heap.size, 1, none⟩ = some (.pointer none) := by rw [hW6]; simp [go_sem]
  have hs6 : Hid (W6.heap.size = w5.heap.size + 1) := by rw [hW6]; unfold Hid; simp
  go_upto_region 8 with fail
  rw [← hW6]
  clear hW6
  obtain ⟨W7, hW7⟩ : ∃ W7, W7 = W6.alloc (Obj.cells #[.pointer (some ⟨B.g, 0, none⟩), .pointer (some ⟨s, 0, none⟩)] 61) := ⟨_, rfl⟩
  have hb7 : Below W6.heap.size W6 W7 := by rw [hW7]; exact below1 _ _
  have hb67 := below_call hb6 hb7
  have HFB : Hid (Fb W7 false true A.g r B.g s w5.heap.size W6.heap.size) := ⟨cell_later hb7 y0, cell_later hb7 y1, by rw [hW7]; simp [go_sem, ptV], by rw [hW7]; simp [go_sem, ptV]⟩
  have hs7 : Hid (W7.heap.size = W6.heap.size + 1) := by rw [hW7]; unfold Hid; simp
  go_upto_region 9 with fail
  rw [← hW7]
  have HB7 : Hid (Below w.heap.size w W7) := below_call HBW.out (below_call HX5.out hb67)
  have hsw : w.heap.size ≤ W.heap.size := HBW.out.size
  have HSA : Hid (Sd false W7 A kn' mo' r b 0) := fun h => by cases h
  have hl4 : Below w4.heap.size w4 W7 := below_call HB5.out hb67
  have HSB : Hid (Sd true W7 B km no s d 0) := fun _ => ⟨_, _, _, _, (start_pr (HCB.out.later HBs.out) HFs.out (fun k hk => by have := HCB.out.lt k hk; have := HRs.out; omega)).later hl4, Nat.le_refl _⟩
  have hBlo : ∀ k, PS B s d k → W.heap.size ≤ k ∧ k < w4.heap.size := by
    rintro k (hk | rfl | rfl)
    · have := HAB.out k hk; have := HCB.out.lt k hk; have := HBs.out.size; omega
    · have := HRs.out; have := HFs.out.ltr; have := HBB.out.size; omega
    · have := HRs.out; have := HFs.out.ltb; have := HBB.out.size; omega
  have HFX : Hid (Fx w false true A r b B s d w5.heap.size W6.heap.size) := ⟨(fun h => by cases h), fun _ k hk => by have := hBlo k hk; have := HBB.out.size; have := HBs.out.size; have := HB5.out.size; have := hs6.out; omega, (fun h => by cases h)⟩
  have hlA : w5.heap.size < W7.heap.size := by have := hs6.out; have := hs7.out; omega
  have hlB : W6.heap.size < W7.heap.size := by have := hs7.out; omega
  clear hW7 y0 y1 hb6 hb7 hb67 hs6 hs7 hsw
  clear hl4 hBlo HCB HAB HBB HFs HRs HBs HXw3 HXw4 HX5 HB5 HZ HBW
  generalize w5.heap.size = bA at *
  generalize W6.heap.size = bB at *
  go_upto_region 10 with fail
  go_loopw [15] (AlRel w false true A kn' mo' r b B km no s d bA bB k) (fun t _ => k - (intOf t).toNat)
  case atStart => exact ⟨0, Nat.zero_le _, rfl, HSA.out, HSB.out, HFB.out, HB7.out⟩
  case round =>
    clear HSA HSB HFB HB7
    obtain ⟨i, hi, rfl, hSA, hSB, hFB, hB⟩ := hrel
    have HSA := hid hSA
    have HSB := hid hSB
    have HFB := hid hFB
    have HB := hid hB
    clear hSA hSB hFB hB
    by_cases hlt : i < k
    · obtain ⟨sb, so, rfl, hc⟩ := HS.out.at_ (by omega)
      have hok := HS.out.ok i hlt
      have HSC := hid (hc i hlt)
      clear hc
      generalize f i = sp at *
      obtain ⟨sec, kd, sn, ⟨sO, shi, slo⟩, sr⟩ := sp
      have HSU : Hid (∀ U, Below w.heap.size w U → U.cell? ⟨sb, so + i * 7, none⟩ = some (.bool sec) ∧ U.cell? ⟨sb, so + i * 7 + 1, none⟩ = some (.int .i64 kd) ∧ U.cell? ⟨sb, so + i * 7 + 2, none⟩ = some (.int .i64 sn) ∧ U.cell? ⟨sb, so + i * 7 + 3, none⟩ = some (.int .i64 sO) ∧ U.cell? ⟨sb, so + i * 7 + 4, none⟩ = some (.int .u64 (shi : Int)) ∧ U.cell? ⟨sb, so + i * 7 + 5, none⟩ = some (.int .u64 (slo : Int)) ∧ U.cell? ⟨sb, so + i * 7 + 6, none⟩ = some (.int .i64 sr)) := fun U hU => by
        obtain ⟨c0, c1, c2, c3, c4, c5, c6⟩ := HSC.out.later hU
        exact ⟨c0, c1, c2, c3, c4, c5, c6⟩
      have s0 := (HSU.out _ HB.out).1
      cases sec
      · go_wp2
        exact ⟨⟨i + 1, by omega, by go_num, HSA.out.up, HSB.out.up, HFB.out, HB.out⟩, by simp [intOf]; omega⟩
      · obtain ⟨X, l, wh, ev, hP, hev⟩ := HSB.out rfl
        have HP := hid hP
        clear hP
        have HSS : Hid (∀ U, But (PS B s d) wr U → (U.cell? ⟨bB, 0, none⟩ = some (.pointer (some ⟨B.g, 0, none⟩)) ∧ U.cell? ⟨bB, 1, none⟩ = some (.pointer (some ⟨s, 0, none⟩)) ∧ U.cell? ⟨sb, so + i * 7, none⟩ = some (.bool true) ∧ U.cell? ⟨sb, so + i * 7 + 1, none⟩ = some (.int .i64 kd) ∧ U.cell? ⟨sb, so + i * 7 + 2, none⟩ = some (.int .i64 sn) ∧ U.cell? ⟨sb, so + i * 7 + 3, none⟩ = some (.int .i64 sO) ∧ U.cell? ⟨sb, so + i * 7 + 4, none⟩ = some (.int .u64 (shi : Int)) ∧ U.cell? ⟨sb, so + i * 7 + 5, none⟩ = some (.int .u64 (slo : Int)) ∧ U.cell? ⟨sb, so + i * 7 + 6, none⟩ = some (.int .i64 sr)) ∧ But (PS B s d) wr U) := fun U hU => by
          have h7 := HSU.out U (But.below HB.out hU (fun q hq => (HFX.out.bb rfl q hq).1))
          have hfb := HFB.out.but hU (fun e => (HFX.out.bb rfl _ e).2.1 rfl) (fun e => (HFX.out.bb rfl _ e).2.2 rfl)
          exact ⟨⟨hfb.b0, hfb.b1, h7⟩, hU⟩
        go_upto_region 14 with fail
        clear s0
        go_region_held3 (fun U => (U.cell? ⟨bB, 0, none⟩ = some (.pointer (some ⟨B.g, 0, none⟩)) ∧ U.cell? ⟨bB, 1, none⟩ = some (.pointer (some ⟨s, 0, none⟩)) ∧ U.cell? ⟨sb, so + i * 7, none⟩ = some (.bool true) ∧ U.cell? ⟨sb, so + i * 7 + 1, none⟩ = some (.int .i64 kd) ∧ U.cell? ⟨sb, so + i * 7 + 2, none⟩ = some (.int .i64 sn) ∧ U.cell? ⟨sb, so + i * 7 + 3, none⟩ = some (.int .i64 sO) ∧ U.cell? ⟨sb, so + i * 7 + 4, none⟩ = some (.int .u64 (shi : Int)) ∧ U.cell? ⟨sb, so + i * 7 + 5, none⟩ = some (.int .u64 (slo : Int)) ∧ U.cell? ⟨sb, so + i * 7 + 6, none⟩ = some (.int .i64 sr)) ∧ But (PS B s d) wr U) (first | exact HSS.out _ hb7.out | exact HSS.out _ (But.of (Below.refl _ _).drew)) (first
          | (go_at_call 21; refine (step_any (HP.out.later (Below.refl _ _).drew) ⟨true, kd, sn, (sO, shi, slo), sr⟩ hok (by omega)).mono ?_; rintro e w7 ⟨rfl, L7_⟩; have L7 := hid L7_; have hb7 : Hid (But (PS B s d) wr w7) := (by unfold Hid; obtain ⟨_, _, _, _, _, _, b7⟩ := L7_; exact (But.of (Below.refl wr.heap.size wr).drew).trans b7); clear L7_))
        have HNX : Hid (AlRel w false true A kn' mo' r b B km no s d bA bB k (.int .i64 ((i + 1 : Nat) : Int)) w7) := by
          obtain ⟨X', l', wh', ev', hp7, hev', -⟩ := L7.out
          have hb7 := hb7.out
          exact ⟨i + 1, by omega, rfl, (fun h => by cases h), (fun _ => ⟨X', l', wh', ev', hp7, by omega⟩), HFB.out.but hb7 (fun e => (HFX.out.bb rfl _ e).2.1 rfl) (fun e => (HFX.out.bb rfl _ e).2.2 rfl), But.below HB.out hb7 (fun q hq => (HFX.out.bb rfl q hq).1)⟩
        clear L7 hb7 HSS
        have HU7 : Hid (Below w.heap.size w w7) := by obtain ⟨_, _, _, _, _, _, hx⟩ := HNX.out; exact hx
        have s0 := (HSU.out _ HU7.out).1
        go_wp2
        refine ⟨?_, by simp [intOf]; omega⟩
        have := HNX.out
        simpa using this
    · obtain rfl : i = k := by omega
      have x0 : wr.cell? ⟨bA, 0, none⟩ = some (.pointer none) := HFB.out.a0
      have x1 : wr.cell? ⟨bA, 1, none⟩ = some (.pointer none) := HFB.out.a1
      have x2 : wr.cell? ⟨bB, 0, none⟩ = some (.pointer (some ⟨B.g, 0, none⟩)) := HFB.out.b0
      have x3 : wr.cell? ⟨bB, 1, none⟩ = some (.pointer (some ⟨s, 0, none⟩)) := HFB.out.b1
      have hwb : Hid (∀ U, Below wr.heap.size wr U → Calls Try.prog 22 #[prV B.g s] U fun e w' => e = .returned (.bool true) ∧ Below U.heap.size U w') := fun U hU => by
        obtain ⟨X, l, wh, ev, hP, -⟩ := HSB.out rfl
        exact whole_any (hP.later hU)
      unfold prV at hwb
      go_wp2_with (first
        | (go_at_call 22; refine (hwb.out _ (Below.refl _ _)).mono ?_; rintro e w8 ⟨rfl, hb8_⟩; have hb8 := hid hb8_; clear hb8_))
      go_ret
      exact ⟨rfl, below_call HB.out hb8.out⟩
set_option maxRecDepth 100000 in
set_option maxHeartbeats 8000000 in
theorem all_ff (mo kn : Int) (hba : mo < 1 ∨ 256 < mo ∨ kn < 0 ∨ 64 < kn) (no km : Int) (hbb : no < 1 ∨ 256 < no ∨ km < 0 ∨ 64 < km) (a : Option Addr) (k cap : Nat) (f : Nat → Sp) (w : World) (hS : Ss w a k f) (hk : k ≤ 9223372036854775807) :
    Calls Try.prog 5 #[.agg #[.int .i64 (mo : Int), .int .i64 (kn : Int), .int .i64 (no : Int), .int .i64 (km : Int)], .slice a k cap] w fun e w' => e = .returned (.bool true) ∧ Below w.heap.size w w' := by
  have HS := hid hS
  clear hS
  obtain ⟨W, hW⟩ : ∃ W, W = w.alloc (Obj.cells #[.int .i64 (mo : Int), .int .i64 (kn : Int), .int .i64 (no : Int), .int .i64 (km : Int)] 54) := ⟨_, rfl⟩
  have hBW : Below w.heap.size w W := by rw [hW]; exact below1 _ _
  have z0 : W.cell? ⟨w.heap.size, 0, none⟩ = some (.int .i64 (mo : Int)) := by rw [hW]; simp [go_sem]
  have z1 : W.cell? ⟨w.heap.size, 1, none⟩ = some (.int .i64 (kn : Int)) := by rw [hW]; simp [go_sem]
  have z2 : W.cell? ⟨w.heap.size, 2, none⟩ = some (.int .i64 (no : Int)) := by rw [hW]; simp [go_sem]
  have z3 : W.cell? ⟨w.heap.size, 3, none⟩ = some (.int .i64 (km : Int)) := by rw [hW]; simp [go_sem]
  have HBW := hid hBW
  have HZ : Hid (∀ U, Below W.heap.size W U → U.cell? ⟨w.heap.size, 0, none⟩ = some (.int .i64 (mo : Int)) ∧ U.cell? ⟨w.heap.size, 1, none⟩ = some (.int .i64 (kn : Int)) ∧ U.cell? ⟨w.heap.size, 2, none⟩ = some (.int .i64 (no : Int)) ∧ U.cell? ⟨w.heap.size, 3, none⟩ = some (.int .i64 (km : Int))) := fun U hU => ⟨cell_later hU z0, cell_later hU z1, cell_later hU z2, cell_later hU z3⟩
  clear hBW
  go_enter Try.func5, Try.ntmps5
  go_upto_region 1 with fail
  rw [← hW]
  clear hW
  go_upto_region 2 with (first | (go_at_call 19; refine (cnew_bad _ mo kn hba).mono ?_; rintro e w9 ⟨rfl, hw9⟩; obtain rfl := hw9.symm; clear hw9))
  go_upto_region 3 with (first | (go_at_call 20; refine (rnew_bad _ mo kn hba).mono ?_; rintro e w9 ⟨rfl, hw9⟩; obtain rfl := hw9.symm; clear hw9))
  go_upto_region 4 with (first | (go_at_call 19; refine (cnew_bad _ no km hbb).mono ?_; rintro e w9 ⟨rfl, hw9⟩; obtain rfl := hw9.symm; clear hw9))
  go_upto_region 5 with (first | (go_at_call 20; refine (rnew_bad _ no km hbb).mono ?_; rintro e w9 ⟨rfl, hw9⟩; obtain rfl := hw9.symm; clear hw9))
  clear z0 z1 z2 z3
  go_upto_region 7 with (first | (go_at_call 8; refine (known_any _).mono ?_; rintro e w5 ⟨rfl, hb5⟩; have HB5 := hid hb5; clear hb5))
  have HX5 : Hid (Below W.heap.size W w5) := HB5.out
  obtain ⟨A, r, b, mo', kn', -⟩ : ∃ (A : Ad) (r b mo' kn' : Nat), True := ⟨⟨0, 0, 0, 0, 0, 0, 0⟩, 0, 0, 0, 0, trivial⟩
  obtain ⟨B, s, d, no', km', -⟩ : ∃ (A : Ad) (r b mo' kn' : Nat), True := ⟨⟨0, 0, 0, 0, 0, 0, 0⟩, 0, 0, 0, 0, trivial⟩
  obtain ⟨W6, hW6⟩ : ∃ W6, W6 = w5.alloc (Obj.cells #[.pointer none, .pointer none] 61) := ⟨_, rfl⟩
  have hb6 : Below w5.heap.size w5 W6 := by rw [hW6]; exact below1 _ _
  have y0 : W6.cell? ⟨w5.heap.size, 0, none⟩ = some (.pointer none) := by rw [hW6]; simp [go_sem]
  have y1 : W6.cell? ⟨w5.heap.size, 1, none⟩ = some (.pointer none) := by rw [hW6]; simp [go_sem]
  have hs6 : Hid (W6.heap.size = w5.heap.size + 1) := by rw [hW6]; unfold Hid; simp
  go_upto_region 8 with fail
  rw [← hW6]
  clear hW6
  obtain ⟨W7, hW7⟩ : ∃ W7, W7 = W6.alloc (Obj.cells #[.pointer none, .pointer none] 61) := ⟨_, rfl⟩
  have hb7 : Below W6.heap.size W6 W7 := by rw [hW7]; exact below1 _ _
  have hb67 := below_call hb6 hb7
  have HFB : Hid (Fb W7 false false A.g r B.g s w5.heap.size W6.heap.size) := ⟨cell_later hb7 y0, cell_later hb7 y1, by rw [hW7]; simp [go_sem, ptV], by rw [hW7]; simp [go_sem, ptV]⟩
  have hs7 : Hid (W7.heap.size = W6.heap.size + 1) := by rw [hW7]; unfold Hid; simp
  go_upto_region 9 with fail
  rw [← hW7]
  have HB7 : Hid (Below w.heap.size w W7) := below_call HBW.out (below_call HX5.out hb67)
  have hsw : w.heap.size ≤ W.heap.size := HBW.out.size
  have HSA : Hid (Sd false W7 A kn' mo' r b 0) := fun h => by cases h
  have HSB : Hid (Sd false W7 B km' no' s d 0) := fun h => by cases h
  have HFX : Hid (Fx w false false A r b B s d w5.heap.size W6.heap.size) := ⟨(fun h => by cases h), (fun h => by cases h), (fun h => by cases h)⟩
  have hlA : w5.heap.size < W7.heap.size := by have := hs6.out; have := hs7.out; omega
  have hlB : W6.heap.size < W7.heap.size := by have := hs7.out; omega
  clear hW7 y0 y1 hb6 hb7 hb67 hs6 hs7 hsw
  clear HX5 HB5 HZ HBW
  generalize w5.heap.size = bA at *
  generalize W6.heap.size = bB at *
  go_upto_region 10 with fail
  go_loopw [15] (AlRel w false false A kn' mo' r b B km' no' s d bA bB k) (fun t _ => k - (intOf t).toNat)
  case atStart => exact ⟨0, Nat.zero_le _, rfl, HSA.out, HSB.out, HFB.out, HB7.out⟩
  case round =>
    clear HSA HSB HFB HB7
    obtain ⟨i, hi, rfl, hSA, hSB, hFB, hB⟩ := hrel
    have HSA := hid hSA
    have HSB := hid hSB
    have HFB := hid hFB
    have HB := hid hB
    clear hSA hSB hFB hB
    by_cases hlt : i < k
    · obtain ⟨sb, so, rfl, hc⟩ := HS.out.at_ (by omega)
      have hok := HS.out.ok i hlt
      have HSC := hid (hc i hlt)
      clear hc
      generalize f i = sp at *
      obtain ⟨sec, kd, sn, ⟨sO, shi, slo⟩, sr⟩ := sp
      have HSU : Hid (∀ U, Below w.heap.size w U → U.cell? ⟨sb, so + i * 7, none⟩ = some (.bool sec) ∧ U.cell? ⟨sb, so + i * 7 + 1, none⟩ = some (.int .i64 kd) ∧ U.cell? ⟨sb, so + i * 7 + 2, none⟩ = some (.int .i64 sn) ∧ U.cell? ⟨sb, so + i * 7 + 3, none⟩ = some (.int .i64 sO) ∧ U.cell? ⟨sb, so + i * 7 + 4, none⟩ = some (.int .u64 (shi : Int)) ∧ U.cell? ⟨sb, so + i * 7 + 5, none⟩ = some (.int .u64 (slo : Int)) ∧ U.cell? ⟨sb, so + i * 7 + 6, none⟩ = some (.int .i64 sr)) := fun U hU => by
        obtain ⟨c0, c1, c2, c3, c4, c5, c6⟩ := HSC.out.later hU
        exact ⟨c0, c1, c2, c3, c4, c5, c6⟩
      have s0 := (HSU.out _ HB.out).1
      cases sec
      · go_wp2
        exact ⟨⟨i + 1, by omega, by go_num, HSA.out.up, HSB.out.up, HFB.out, HB.out⟩, by simp [intOf]; omega⟩
      · go_wp2
        exact ⟨⟨i + 1, by omega, by go_num, HSA.out.up, HSB.out.up, HFB.out, HB.out⟩, by simp [intOf]; omega⟩
    · obtain rfl : i = k := by omega
      have x0 : wr.cell? ⟨bA, 0, none⟩ = some (.pointer none) := HFB.out.a0
      have x1 : wr.cell? ⟨bA, 1, none⟩ = some (.pointer none) := HFB.out.a1
      have x2 : wr.cell? ⟨bB, 0, none⟩ = some (.pointer none) := HFB.out.b0
      have x3 : wr.cell? ⟨bB, 1, none⟩ = some (.pointer none) := HFB.out.b1
      go_wp2
      go_ret
      exact ⟨rfl, HB.out⟩
theorem all_law (E K O T : Int) (a : Option Addr) (k cap : Nat) (f : Nat → Sp) (w : World) (hS : Ss w a k f) (hk : k ≤ 9223372036854775807) :
    Calls Try.prog 5 #[.agg #[.int .i64 E, .int .i64 K, .int .i64 O, .int .i64 T], .slice a k cap] w fun e w' => e = .returned (.bool true) ∧ Below w.heap.size w w' := by
  by_cases h1 : (1 ≤ E ∧ E ≤ 256) ∧ (0 ≤ K ∧ K ≤ 64)
  · obtain ⟨mo, rfl⟩ : ∃ n : Nat, E = (n : Int) := ⟨E.toNat, by omega⟩
    obtain ⟨kn, rfl⟩ : ∃ n : Nat, K = (n : Int) := ⟨K.toNat, by omega⟩
    by_cases h2 : (1 ≤ O ∧ O ≤ 256) ∧ (0 ≤ T ∧ T ≤ 64)
    · obtain ⟨no, rfl⟩ : ∃ n : Nat, O = (n : Int) := ⟨O.toNat, by omega⟩
      obtain ⟨km, rfl⟩ : ∃ n : Nat, T = (n : Int) := ⟨T.toNat, by omega⟩
      exact all_tt mo kn (by omega) (by omega) (by omega) no km (by omega) (by omega) (by omega) a k cap f w hS hk
    · exact all_tf mo kn (by omega) (by omega) (by omega) O T (by omega) a k cap f w hS hk
  · by_cases h2 : (1 ≤ O ∧ O ≤ 256) ∧ (0 ≤ T ∧ T ≤ 64)
    · obtain ⟨no, rfl⟩ : ∃ n : Nat, O = (n : Int) := ⟨O.toNat, by omega⟩
      obtain ⟨km, rfl⟩ : ∃ n : Nat, T = (n : Int) := ⟨T.toNat, by omega⟩
      exact all_ft E K (by omega) no km (by omega) (by omega) (by omega) a k cap f w hS hk
    · exact all_ff E K (by omega) O T (by omega) a k cap f w hS hk
end Go.Proofs.Ytgdhdfmgfncdkaa
