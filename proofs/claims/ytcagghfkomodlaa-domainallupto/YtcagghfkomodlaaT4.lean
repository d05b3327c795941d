import Derived.Test.YtcagghfkomodlaaT1
namespace Go.Proofs.Ytcagghfkomodlaa
open Go.RowKit
set_option linter.unusedVariables false
set_option linter.unusedSimpArgs false
variable {w w' : World} {base g r : Nat} {m : Int} {pa : Option Addr} {ca : Nat} {pb : Option Addr} {cb : Nat} {K : List Cp}
set_option maxRecDepth 100000 in
set_option maxHeartbeats 4000000 in
theorem step_at_ok (h : Duo w base g r m pa ca pb cb K) (sec : Bool) (c : Cp) (la : Option Addr) (ln lc : Nat) (k : Nat) (z : Cp) (hkc : K[k]? = some z) :
    Calls Try.prog 18 #[.agg #[.pointer (some ⟨g, 0, none⟩), .pointer (some ⟨r, 0, none⟩)], .agg #[.bool sec, .int .i64 2, .int .i64 c.1, .int .u64 (c.2.1 : Int), .int .u64 (c.2.2 : Int), .int .i64 (k : Int), .slice la ln lc]] w (Did w base g r m pa pb) := by
  obtain ⟨w2, hw2⟩ : ∃ w2, w2 = sxW w g r sec 2 c (k : Int) la ln lc := ⟨_, rfl⟩
  have hB2 : Below w.heap.size w w2 := by rw [hw2]; exact below2 _ _ _
  have hX2 : Sx w2 w.heap.size (w.heap.size + 1) g r sec 2 c (k : Int) la ln lc := by rw [hw2]; exact sx_new w g r sec 2 c (k : Int) la ln lc
  have h2 := h.later hB2
  have hsz : w2.heap.size = w.heap.size + 2 := by rw [hw2]; simp
  have HT : Hid (∀ k, Two g pa r pb k → k < w.heap.size) := fun k hk => (h.blk k hk).2
  have HC : Hid (∀ U, But (Two g pa r pb) w2 U → Sx U w.heap.size (w.heap.size + 1) g r sec 2 c (k : Int) la ln lc) := fun U hU => hX2.but hU (fun e => by have := HT.out _ e; omega) (fun e => by have := HT.out _ e; omega)
  have HB2 := hid hB2
  have H2 := hid h2
  have hkl := h2.kl
  have hm32 := h2.m32
  have hle := h2.le
  have s1 := hX2.s1
  clear h hB2 hX2 h2
  unfold sxW at hw2
  have hX := HC.out w2 (But.refl _ _)
  obtain ⟨x0, x1, _, _, _, _, s5, _⟩ := hX
  have hcA := hid (at_ok H2.out.p k z hkc)
  have HRB := hid (fun (U : World) (hq : Dm U base r m pb cb K) => rat_ok hq k z hkc)
  have hlk : k < K.length := (List.getElem?_eq_some_iff.1 hkc).1
  have heq := fun W => eqlC z.1 (z.2.1 : Int) (z.2.2 : Int) z.1 (z.2.1 : Int) (z.2.2 : Int) W
  have hq1 : cEq z.1 (z.2.1 : Int) (z.2.2 : Int) z.1 (z.2.1 : Int) (z.2.2 : Int) = true := by simp [cEq]
  simp only [hq1] at heq
  clear hq1 hkc
  go_enter Try.func18, Try.ntmps18
  go_upto_region 1 with fail
  rw [← hw2]
  clear hw2
  go_upto_region 10 with (first | (go_at_call 14; refine hcA.out.mono ?_; rintro e w3 ⟨rfl, hb3⟩; have HP3 := hid (H2.out.p.later hb3); have HQ3 := hid (H2.out.q.later hb3); have HJ3 := hid H2.out.ap; have HM3 : Hid (Mv w2 w3 g pa r pb pa pb) := Mv.refl hb3; clear hb3))
  clear s1 x0 x1 s5 hcA
  obtain ⟨w4, hw4⟩ : ∃ w4, w4 = w3.alloc (Obj.cells #[.int .i64 z.1, .int .u64 (z.2.1 : Int), .int .u64 (z.2.2 : Int)] 35) := ⟨_, rfl⟩
  have hB34 : Below w3.heap.size w3 w4 := by rw [hw4]; exact below1 _ _
  have hz4 : Cel w4 w3.heap.size 0 z := by rw [hw4]; exact ⟨by simp [go_sem], by simp [go_sem], by simp [go_sem]⟩
  rw [← hw4]
  clear hw4
  have HB34 := hid hB34
  have HZ4 := hid hz4
  obtain ⟨x0, x1, _, _, _, _, s5, _⟩ := HC.out w4 (HM3.out.but.call hB34)
  have hcB := hid (HRB.out w4 (HQ3.out.later hB34))
  clear hB34 hz4 HRB
  go_upto_region 11 with (first | (go_at_call 23; refine hcB.out.mono ?_; rintro e w5 ⟨rfl, hb5⟩; have HZ5 := hid (HZ4.out.later hb5); have HB35 := hid (below_call HB34.out hb5); have HM5 := hid (HM3.out.post HB35.out); have HD5 : Hid (Duo w5 base g r m pa ca pb cb K) := ⟨HP3.out.later HB35.out, HQ3.out.later HB35.out, HJ3.out, hle, hm32⟩; clear hb5))
  clear x0 x1 s5 hcB
  obtain ⟨w6, hw6⟩ : ∃ w6, w6 = w5.alloc (Obj.cells #[.int .i64 z.1, .int .u64 (z.2.1 : Int), .int .u64 (z.2.2 : Int)] 35) := ⟨_, rfl⟩
  have hB56 : Below w5.heap.size w5 w6 := by rw [hw6]; exact below1 _ _
  obtain ⟨v0, v1, v2⟩ : Cel w6 w5.heap.size 0 z := by rw [hw6]; exact ⟨by simp [go_sem], by simp [go_sem], by simp [go_sem]⟩
  obtain ⟨u0, u1, u2⟩ := HZ5.out.later hB56
  rw [← hw6]
  clear hw6
  have HB56 := hid hB56
  clear hB56
  go_wp2
  go_ret
  exact ⟨_, _, _, _, _, rfl, HD5.out.later HB56.out, Mv.pre HB2.out (HM5.out.post HB56.out)⟩
set_option maxRecDepth 100000 in
set_option maxHeartbeats 4000000 in
theorem step_at_bad (h : Duo w base g r m pa ca pb cb K) (sec : Bool) (c : Cp) (n : Int) (la : Option Addr) (ln lc : Nat) (hbad : okI K n = false) :
    Calls Try.prog 18 #[.agg #[.pointer (some ⟨g, 0, none⟩), .pointer (some ⟨r, 0, none⟩)], .agg #[.bool sec, .int .i64 2, .int .i64 c.1, .int .u64 (c.2.1 : Int), .int .u64 (c.2.2 : Int), .int .i64 n, .slice la ln lc]] w (Did w base g r m pa pb) := by
  obtain ⟨w2, hw2⟩ : ∃ w2, w2 = sxW w g r sec 2 c n la ln lc := ⟨_, rfl⟩
  have hB2 : Below w.heap.size w w2 := by rw [hw2]; exact below2 _ _ _
  have hX2 : Sx w2 w.heap.size (w.heap.size + 1) g r sec 2 c n la ln lc := by rw [hw2]; exact sx_new w g r sec 2 c n la ln lc
  have h2 := h.later hB2
  have hsz : w2.heap.size = w.heap.size + 2 := by rw [hw2]; simp
  have HT : Hid (∀ k, Two g pa r pb k → k < w.heap.size) := fun k hk => (h.blk k hk).2
  have HC : Hid (∀ U, But (Two g pa r pb) w2 U → Sx U w.heap.size (w.heap.size + 1) g r sec 2 c n la ln lc) := fun U hU => hX2.but hU (fun e => by have := HT.out _ e; omega) (fun e => by have := HT.out _ e; omega)
  have HB2 := hid hB2
  have H2 := hid h2
  have hkl := h2.kl
  have hm32 := h2.m32
  have hle := h2.le
  have s1 := hX2.s1
  clear h hB2 hX2 h2
  unfold sxW at hw2
  have hX := HC.out w2 (But.refl _ _)
  obtain ⟨x0, x1, _, _, _, _, s5, _⟩ := hX
  have hcA := hid (at_bad H2.out.p n hbad)
  have HRB := hid (fun (U : World) (hq : Dm U base r m pb cb K) => rat_bad hq n hbad)
  have heq := fun W => eqlC 0 0 0 0 0 0 W
  simp only [show cEq 0 0 0 0 0 0 = true by decide] at heq
  go_enter Try.func18, Try.ntmps18
  go_upto_region 1 with fail
  rw [← hw2]
  clear hw2
  go_upto_region 10 with (first | (go_at_call 14; refine hcA.out.mono ?_; rintro e w3 ⟨rfl, hb3⟩; have HP3 := hid (H2.out.p.later hb3); have HQ3 := hid (H2.out.q.later hb3); have HJ3 := hid H2.out.ap; have HM3 : Hid (Mv w2 w3 g pa r pb pa pb) := Mv.refl hb3; clear hb3))
  clear s1 x0 x1 s5 hcA
  obtain ⟨w4, hw4⟩ : ∃ w4, w4 = w3.alloc (Obj.cells #[.int .i64 0, .int .u64 0, .int .u64 0] 35) := ⟨_, rfl⟩
  have hB34 : Below w3.heap.size w3 w4 := by rw [hw4]; exact below1 _ _
  have hz4 : Cel w4 w3.heap.size 0 (0, 0, 0) := by rw [hw4]; exact ⟨by simp [go_sem], by simp [go_sem], by simp [go_sem]⟩
  rw [← hw4]
  clear hw4
  have HB34 := hid hB34
  have HZ4 := hid hz4
  obtain ⟨x0, x1, _, _, _, _, s5, _⟩ := HC.out w4 (HM3.out.but.call hB34)
  have hcB := hid (HRB.out w4 (HQ3.out.later hB34))
  clear hB34 hz4 HRB
  go_upto_region 11 with (first | (go_at_call 23; refine hcB.out.mono ?_; rintro e w5 ⟨rfl, hb5⟩; have HZ5 := hid (HZ4.out.later hb5); have HB35 := hid (below_call HB34.out hb5); have HM5 := hid (HM3.out.post HB35.out); have HD5 : Hid (Duo w5 base g r m pa ca pb cb K) := ⟨HP3.out.later HB35.out, HQ3.out.later HB35.out, HJ3.out, hle, hm32⟩; clear hb5))
  clear x0 x1 s5 hcB
  obtain ⟨w6, hw6⟩ : ∃ w6, w6 = w5.alloc (Obj.cells #[.int .i64 0, .int .u64 0, .int .u64 0] 35) := ⟨_, rfl⟩
  have hB56 : Below w5.heap.size w5 w6 := by rw [hw6]; exact below1 _ _
  obtain ⟨v0, v1, v2⟩ : Cel w6 w5.heap.size 0 (0, 0, 0) := by rw [hw6]; exact ⟨by simp [go_sem], by simp [go_sem], by simp [go_sem]⟩
  obtain ⟨u0, u1, u2⟩ := HZ5.out.later hB56
  rw [← hw6]
  clear hw6
  simp only [Int.cast_ofNat_Int] at v1 v2 u1 u2
  have HB56 := hid hB56
  clear hB56
  go_wp2
  go_ret
  exact ⟨_, _, _, _, _, rfl, HD5.out.later HB56.out, Mv.pre HB2.out (HM5.out.post HB56.out)⟩
end Go.Proofs.Ytcagghfkomodlaa
