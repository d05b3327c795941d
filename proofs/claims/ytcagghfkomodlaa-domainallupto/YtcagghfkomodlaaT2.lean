import Derived.Test.YtcagghfkomodlaaT1
namespace Go.Proofs.Ytcagghfkomodlaa
open Go.RowKit
set_option linter.unusedVariables false
set_option linter.unusedSimpArgs false
variable {w w' : World} {base g r : Nat} {m : Int} {pa : Option Addr} {ca : Nat} {pb : Option Addr} {cb : Nat} {K : List Cp}
set_option maxRecDepth 100000 in
set_option maxHeartbeats 4000000 in
theorem step_add_more (h : Duo w base g r m pa ca pb cb K) (sec : Bool) (c : Cp) (n : Int) (la : Option Addr) (ln lc : Nat) (hf : ¬ m ≤ (K.length : Int)) :
    Calls Try.prog 18 #[.agg #[.pointer (some ⟨g, 0, none⟩), .pointer (some ⟨r, 0, none⟩)], .agg #[.bool sec, .int .i64 0, .int .i64 c.1, .int .u64 (c.2.1 : Int), .int .u64 (c.2.2 : Int), .int .i64 n, .slice la ln lc]] w (Did w base g r m pa pb) := by
  obtain ⟨w2, hw2⟩ : ∃ w2, w2 = sxW w g r sec 0 c n la ln lc := ⟨_, rfl⟩
  have hB2 : Below w.heap.size w w2 := by rw [hw2]; exact below2 _ _ _
  have hX2 : Sx w2 w.heap.size (w.heap.size + 1) g r sec 0 c n la ln lc := by rw [hw2]; exact sx_new w g r sec 0 c n la ln lc
  have h2 := h.later hB2
  have hsz : w2.heap.size = w.heap.size + 2 := by rw [hw2]; simp
  have HT : Hid (∀ k, Two g pa r pb k → k < w.heap.size) := fun k hk => (h.blk k hk).2
  have HC : Hid (∀ U, But (Two g pa r pb) w2 U → Sx U w.heap.size (w.heap.size + 1) g r sec 0 c n la ln lc) := fun U hU => hX2.but hU (fun e => by have := HT.out _ e; omega) (fun e => by have := HT.out _ e; omega)
  have HB2 := hid hB2
  have H2 := hid h2
  have hkl := h2.kl
  have hm32 := h2.m32
  have hle := h2.le
  have s1 := hX2.s1
  clear h hB2 hX2 h2
  unfold sxW at hw2
  have HC3 : Hid (∀ U, But (Two g pa r pb) w2 U → (U.cell? ⟨w.heap.size, 0, none⟩ = some (.pointer (some ⟨g, 0, none⟩)) ∧ U.cell? ⟨w.heap.size, 1, none⟩ = some (.pointer (some ⟨r, 0, none⟩)) ∧ U.cell? ⟨w.heap.size + 1, 2, none⟩ = some (.int .i64 c.1) ∧ U.cell? ⟨w.heap.size + 1, 3, none⟩ = some (.int .u64 (c.2.1 : Int)) ∧ U.cell? ⟨w.heap.size + 1, 4, none⟩ = some (.int .u64 (c.2.2 : Int))) ∧ But (Two g pa r pb) w2 U) := fun U hU => by
    have hx := HC.out U hU
    exact ⟨⟨hx.x0, hx.x1, hx.s2, hx.s3, hx.s4⟩, hU⟩
  have hf : (K.length : Int) < m := by omega
  have had := hid (add_more (H2.out.p.later (Below.refl _ _).drew) c hf hm32)
  have HRA := hid (fun (U : World) (hq : Dm U base r m pb cb K) => radd_more hq c hf hm32)
  go_enter Try.func18, Try.ntmps18
  go_upto_region 1 with fail
  rw [← hw2]
  clear hw2
  go_upto_region 3 with fail
  clear s1
  go_region_held3 (fun U => (U.cell? ⟨w.heap.size, 0, none⟩ = some (.pointer (some ⟨g, 0, none⟩)) ∧ U.cell? ⟨w.heap.size, 1, none⟩ = some (.pointer (some ⟨r, 0, none⟩)) ∧ U.cell? ⟨w.heap.size + 1, 2, none⟩ = some (.int .i64 c.1) ∧ U.cell? ⟨w.heap.size + 1, 3, none⟩ = some (.int .u64 (c.2.1 : Int)) ∧ U.cell? ⟨w.heap.size + 1, 4, none⟩ = some (.int .u64 (c.2.2 : Int))) ∧ But (Two g pa r pb) w2 U) (first | exact HC3.out _ HT4.out | exact HC3.out _ HT3.out | exact HC3.out _ (But.of (Below.refl _ _).drew)) (first
    | (go_at_call 9; refine had.out.mono ?_; rintro e w3 ⟨pa3, ca3, rfl, hd3, hr3⟩; have ho := (H2.out.later (Below.refl _ _).drew).one hd3 hr3; have HP3 := hid hd3; have HQ3 := hid ho.1; have HJ3 := hid ho.2.1; have HM3 := hid (Mv.pre (Below.refl _ _).drew ho.2.2); have HT3 := hid HM3.out.but; clear hd3 hr3 ho)
    | (go_at_call 21; refine (HRA.out _ HQ3.out).mono ?_; rintro e w4 ⟨pb4, cb4, rfl, hd4, hr4⟩; have ho := Duo.two HP3.out HQ3.out HJ3.out HM3.out (Below.refl _ _) hd4 hr4 (by simp; omega) hm32; have HD4 := hid ho.1; have HM4 := hid ho.2; have HT4 := hid HM4.out.but; clear hd4 hr4 ho))
  go_wp2
  go_ret
  exact ⟨pa3, ca3, pb4, cb4, _, rfl, HD4.out, Mv.pre HB2.out HM4.out⟩
set_option maxRecDepth 100000 in
set_option maxHeartbeats 4000000 in
theorem step_add_full (h : Duo w base g r m pa ca pb cb K) (sec : Bool) (c : Cp) (n : Int) (la : Option Addr) (ln lc : Nat) (hf : m ≤ (K.length : Int)) :
    Calls Try.prog 18 #[.agg #[.pointer (some ⟨g, 0, none⟩), .pointer (some ⟨r, 0, none⟩)], .agg #[.bool sec, .int .i64 0, .int .i64 c.1, .int .u64 (c.2.1 : Int), .int .u64 (c.2.2 : Int), .int .i64 n, .slice la ln lc]] w (Did w base g r m pa pb) := by
  obtain ⟨w2, hw2⟩ : ∃ w2, w2 = sxW w g r sec 0 c n la ln lc := ⟨_, rfl⟩
  have hB2 : Below w.heap.size w w2 := by rw [hw2]; exact below2 _ _ _
  have hX2 : Sx w2 w.heap.size (w.heap.size + 1) g r sec 0 c n la ln lc := by rw [hw2]; exact sx_new w g r sec 0 c n la ln lc
  have h2 := h.later hB2
  have hsz : w2.heap.size = w.heap.size + 2 := by rw [hw2]; simp
  have HT : Hid (∀ k, Two g pa r pb k → k < w.heap.size) := fun k hk => (h.blk k hk).2
  have HC : Hid (∀ U, But (Two g pa r pb) w2 U → Sx U w.heap.size (w.heap.size + 1) g r sec 0 c n la ln lc) := fun U hU => hX2.but hU (fun e => by have := HT.out _ e; omega) (fun e => by have := HT.out _ e; omega)
  have HB2 := hid hB2
  have H2 := hid h2
  have hkl := h2.kl
  have hm32 := h2.m32
  have hle := h2.le
  have s1 := hX2.s1
  clear h hB2 hX2 h2
  unfold sxW at hw2
  have HC3 : Hid (∀ U, But (Two g pa r pb) w2 U → (U.cell? ⟨w.heap.size, 0, none⟩ = some (.pointer (some ⟨g, 0, none⟩)) ∧ U.cell? ⟨w.heap.size, 1, none⟩ = some (.pointer (some ⟨r, 0, none⟩)) ∧ U.cell? ⟨w.heap.size + 1, 2, none⟩ = some (.int .i64 c.1) ∧ U.cell? ⟨w.heap.size + 1, 3, none⟩ = some (.int .u64 (c.2.1 : Int)) ∧ U.cell? ⟨w.heap.size + 1, 4, none⟩ = some (.int .u64 (c.2.2 : Int))) ∧ But (Two g pa r pb) w2 U) := fun U hU => by
    have hx := HC.out U hU
    exact ⟨⟨hx.x0, hx.x1, hx.s2, hx.s3, hx.s4⟩, hU⟩
  have hf2 : (K.length : Int) = m := by omega
  have had := hid (add_full (H2.out.p.later (Below.refl _ _).drew) c hf)
  have HRA := hid (fun (U : World) (hq : Dm U base r m pb cb K) => radd_full hq c hf2)
  go_enter Try.func18, Try.ntmps18
  go_upto_region 1 with fail
  rw [← hw2]
  clear hw2
  go_upto_region 3 with fail
  clear s1
  go_region_held3 (fun U => (U.cell? ⟨w.heap.size, 0, none⟩ = some (.pointer (some ⟨g, 0, none⟩)) ∧ U.cell? ⟨w.heap.size, 1, none⟩ = some (.pointer (some ⟨r, 0, none⟩)) ∧ U.cell? ⟨w.heap.size + 1, 2, none⟩ = some (.int .i64 c.1) ∧ U.cell? ⟨w.heap.size + 1, 3, none⟩ = some (.int .u64 (c.2.1 : Int)) ∧ U.cell? ⟨w.heap.size + 1, 4, none⟩ = some (.int .u64 (c.2.2 : Int))) ∧ But (Two g pa r pb) w2 U) (first | exact HC3.out _ (But.of HB4.out) | exact HC3.out _ (But.of HB3.out) | exact HC3.out _ (But.of (Below.refl _ _).drew)) (first
    | (go_at_call 9; refine had.out.mono ?_; rintro e w3 ⟨rfl, hb3⟩; have HB3 := hid (below_call (Below.refl w2.heap.size w2).drew hb3); clear hb3)
    | (go_at_call 21; refine (HRA.out _ (H2.out.q.later HB3.out)).mono ?_; rintro e w4 ⟨rfl, hb4⟩; have HB4 := hid (below_call HB3.out hb4); clear hb4))
  go_wp2
  go_ret
  exact ⟨pa, ca, pb, cb, K, rfl, H2.out.later HB4.out, Mv.refl (below_call HB2.out HB4.out)⟩
end Go.Proofs.Ytcagghfkomodlaa
