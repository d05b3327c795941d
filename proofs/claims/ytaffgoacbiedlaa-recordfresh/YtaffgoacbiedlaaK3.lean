import Derived.Test.YtaffgoacbiedlaaK2
namespace Go.Proofs.Ytaffgoacbiedlaa
open Go.RowKit
set_option linter.unusedVariables false
set_option linter.unusedSimpArgs false

set_option maxRecDepth 100000 in
set_option maxHeartbeats 2000000 in
theorem layPart0 (L : List Value) (c : Cl) (w0 w : World) (h : Cc w0 L c) (hb0 : Below w0.heap.size w0 w) (hb : inB c = true) : Calls Try.prog 61 #[.agg L.toArray, .int .i64 0] w fun e w' => ∃ a n c', e = .returned (.slice a n c') ∧ Lr w0 w' a n c' (layP c 0) ∧ Below w.heap.size w w' := by
  have hok := all_okP hb (by obtain ⟨d, g, e, hi⟩ := h.ex; exact hi.hi) (by obtain ⟨d, g, e, hi⟩ := h.ex; exact hi.lo) 0
  obtain ⟨d, g, rfl, hi⟩ := h.ex
  obtain ⟨op, by_, size, obj, hI, lo, given, rights, off, n, data, index, gifts⟩ := c
  obtain ⟨da, dn, dc⟩ := d
  obtain ⟨ga, gn, gc⟩ := g
  have HS0 := hid hb0.size
  have X1 := Bx.new w (cC ⟨op, by_, size, obj, hI, lo, given, rights, off, n, data, index, gifts⟩ ⟨da, dn, dc⟩ ⟨ga, gn, gc⟩) 41
  have hc := X1.cell 2 rfl
  clear X1 hok hi hb h hb0
  go_enter Try.func61, Try.ntmps61
  go_wp2_with (first | (go_at_call 82; refine (laySigned_any _ _).mono ?_; rintro e w2 ⟨a2, c2, rfl, hown, hb2⟩))
  go_ret
  exact ⟨_, _, _, rfl, .inr (hown.mono (by have := HS0.out; simp; omega)), below_call (below1 _ _) hb2⟩
set_option maxRecDepth 100000 in
set_option maxHeartbeats 2000000 in
theorem layPart1 (L : List Value) (c : Cl) (w0 w : World) (h : Cc w0 L c) (hb0 : Below w0.heap.size w0 w) (hb : inB c = true) : Calls Try.prog 61 #[.agg L.toArray, .int .i64 1] w fun e w' => ∃ a n c', e = .returned (.slice a n c') ∧ Lr w0 w' a n c' (layP c 1) ∧ Below w.heap.size w w' := by
  have hok := all_okP hb (by obtain ⟨d, g, e, hi⟩ := h.ex; exact hi.hi) (by obtain ⟨d, g, e, hi⟩ := h.ex; exact hi.lo) 1
  obtain ⟨d, g, rfl, hi⟩ := h.ex
  obtain ⟨op, by_, size, obj, hI, lo, given, rights, off, n, data, index, gifts⟩ := c
  obtain ⟨da, dn, dc⟩ := d
  obtain ⟨ga, gn, gc⟩ := g
  have HS0 := hid hb0.size
  have X1 := Bx.new w (cC ⟨op, by_, size, obj, hI, lo, given, rights, off, n, data, index, gifts⟩ ⟨da, dn, dc⟩ ⟨ga, gn, gc⟩) 41
  have hB := wi_iff.1 (hok.2.1 rfl)
  simp only at hB
  obtain ⟨m, hm⟩ : ∃ m : Nat, obj = (m : Int) := ⟨obj.toNat, by omega⟩
  subst hm
  have ew : IntKind.u64.wrap (m : Int) = (m : Int) := by rw [IntKind.wrap_u64]; omega
  have HM : Hid (m < 18446744073709551616) := by unfold Hid; omega
  have hc := X1.cell 3 rfl
  clear X1 hok hi hb h hb0 hB
  go_enter Try.func61, Try.ntmps61
  go_wp2_with (first | (go_at_call 83; refine (p64 m HM.out _).mono ?_; rintro e w2 ⟨a2, c2, rfl, hown, hb2⟩))
  go_ret
  exact ⟨_, _, _, rfl, .inr (hown.mono (by have := HS0.out; simp; omega)), below_call (below1 _ _) hb2⟩
set_option maxRecDepth 100000 in
set_option maxHeartbeats 2000000 in
theorem layPart2 (L : List Value) (c : Cl) (w0 w : World) (h : Cc w0 L c) (hb0 : Below w0.heap.size w0 w) (hb : inB c = true) : Calls Try.prog 61 #[.agg L.toArray, .int .i64 2] w fun e w' => ∃ a n c', e = .returned (.slice a n c') ∧ Lr w0 w' a n c' (layP c 2) ∧ Below w.heap.size w w' := by
  have hok := all_okP hb (by obtain ⟨d, g, e, hi⟩ := h.ex; exact hi.hi) (by obtain ⟨d, g, e, hi⟩ := h.ex; exact hi.lo) 2
  obtain ⟨d, g, rfl, hi⟩ := h.ex
  obtain ⟨op, by_, size, obj, hI, lo, given, rights, off, n, data, index, gifts⟩ := c
  obtain ⟨da, dn, dc⟩ := d
  obtain ⟨ga, gn, gc⟩ := g
  have HS0 := hid hb0.size
  have X1 := Bx.new w (cC ⟨op, by_, size, obj, hI, lo, given, rights, off, n, data, index, gifts⟩ ⟨da, dn, dc⟩ ⟨ga, gn, gc⟩) 41
  have hc := X1.cell 4 rfl
  have hc5 := X1.cell 5 rfl
  have H2 := hid (hok.2.2.1 rfl)
  clear X1 hok hi hb h hb0
  go_enter Try.func61, Try.ntmps61
  go_wp2_with (first | (go_at_call 84; refine (wideBytes_any hI lo _ H2.out.1 H2.out.2).mono ?_; rintro e w2 ⟨a2, c2, rfl, hown, hb2⟩))
  go_ret
  exact ⟨_, _, _, rfl, .inr (hown.mono (by have := HS0.out; simp; omega)), below_call (below1 _ _) hb2⟩
set_option maxRecDepth 100000 in
set_option maxHeartbeats 2000000 in
theorem layPart3 (L : List Value) (c : Cl) (w0 w : World) (h : Cc w0 L c) (hb0 : Below w0.heap.size w0 w) (hb : inB c = true) : Calls Try.prog 61 #[.agg L.toArray, .int .i64 3] w fun e w' => ∃ a n c', e = .returned (.slice a n c') ∧ Lr w0 w' a n c' (layP c 3) ∧ Below w.heap.size w w' := by
  have hok := all_okP hb (by obtain ⟨d, g, e, hi⟩ := h.ex; exact hi.hi) (by obtain ⟨d, g, e, hi⟩ := h.ex; exact hi.lo) 3
  obtain ⟨d, g, rfl, hi⟩ := h.ex
  obtain ⟨op, by_, size, obj, hI, lo, given, rights, off, n, data, index, gifts⟩ := c
  obtain ⟨da, dn, dc⟩ := d
  obtain ⟨ga, gn, gc⟩ := g
  have HS0 := hid hb0.size
  have X1 := Bx.new w (cC ⟨op, by_, size, obj, hI, lo, given, rights, off, n, data, index, gifts⟩ ⟨da, dn, dc⟩ ⟨ga, gn, gc⟩) 41
  have hc := X1.cell 6 rfl
  clear X1 hok hi hb h hb0
  go_enter Try.func61, Try.ntmps61
  go_wp2_with (first | (go_at_call 85; refine (layFlag_any _ _).mono ?_; rintro e w2 ⟨a2, c2, rfl, hown, hb2⟩))
  go_ret
  exact ⟨_, _, _, rfl, .inr (hown.mono (by have := HS0.out; simp; omega)), below_call (below1 _ _) hb2⟩
set_option maxRecDepth 100000 in
set_option maxHeartbeats 2000000 in
theorem layPart4 (L : List Value) (c : Cl) (w0 w : World) (h : Cc w0 L c) (hb0 : Below w0.heap.size w0 w) (hb : inB c = true) : Calls Try.prog 61 #[.agg L.toArray, .int .i64 4] w fun e w' => ∃ a n c', e = .returned (.slice a n c') ∧ Lr w0 w' a n c' (layP c 4) ∧ Below w.heap.size w w' := by
  have hok := all_okP hb (by obtain ⟨d, g, e, hi⟩ := h.ex; exact hi.hi) (by obtain ⟨d, g, e, hi⟩ := h.ex; exact hi.lo) 4
  obtain ⟨d, g, rfl, hi⟩ := h.ex
  obtain ⟨op, by_, size, obj, hI, lo, given, rights, off, n, data, index, gifts⟩ := c
  obtain ⟨da, dn, dc⟩ := d
  obtain ⟨ga, gn, gc⟩ := g
  have HS0 := hid hb0.size
  have X1 := Bx.new w (cC ⟨op, by_, size, obj, hI, lo, given, rights, off, n, data, index, gifts⟩ ⟨da, dn, dc⟩ ⟨ga, gn, gc⟩) 41
  have hB := wi_iff.1 (hok.2.2.2.1 rfl)
  simp only at hB
  obtain ⟨m, hm⟩ : ∃ m : Nat, rights = (m : Int) := ⟨rights.toNat, by omega⟩
  subst hm
  have ew : IntKind.u8.wrap (m : Int) = (m : Int) := by rw [IntKind.wrap_u8]; omega
  have HM : Hid (m < 256) := by unfold Hid; omega
  have hc := X1.cell 7 rfl
  clear X1 hok hi hb h hb0 hB
  go_enter Try.func61, Try.ntmps61
  go_wp2_with (first | (go_at_call 59; refine (p8 m HM.out _).mono ?_; rintro e w2 ⟨a2, c2, rfl, hown, hb2⟩))
  go_ret
  exact ⟨_, _, _, rfl, .inr (hown.mono (by have := HS0.out; simp; omega)), below_call (below1 _ _) hb2⟩
set_option maxRecDepth 100000 in
set_option maxHeartbeats 2000000 in
theorem layPart5 (L : List Value) (c : Cl) (w0 w : World) (h : Cc w0 L c) (hb0 : Below w0.heap.size w0 w) (hb : inB c = true) : Calls Try.prog 61 #[.agg L.toArray, .int .i64 5] w fun e w' => ∃ a n c', e = .returned (.slice a n c') ∧ Lr w0 w' a n c' (layP c 5) ∧ Below w.heap.size w w' := by
  have hok := all_okP hb (by obtain ⟨d, g, e, hi⟩ := h.ex; exact hi.hi) (by obtain ⟨d, g, e, hi⟩ := h.ex; exact hi.lo) 5
  obtain ⟨d, g, rfl, hi⟩ := h.ex
  obtain ⟨op, by_, size, obj, hI, lo, given, rights, off, n, data, index, gifts⟩ := c
  obtain ⟨da, dn, dc⟩ := d
  obtain ⟨ga, gn, gc⟩ := g
  have HS0 := hid hb0.size
  have X1 := Bx.new w (cC ⟨op, by_, size, obj, hI, lo, given, rights, off, n, data, index, gifts⟩ ⟨da, dn, dc⟩ ⟨ga, gn, gc⟩) 41
  have hc := X1.cell 8 rfl
  clear X1 hok hi hb h hb0
  go_enter Try.func61, Try.ntmps61
  go_wp2_with (first | (go_at_call 82; refine (laySigned_any _ _).mono ?_; rintro e w2 ⟨a2, c2, rfl, hown, hb2⟩))
  go_ret
  exact ⟨_, _, _, rfl, .inr (hown.mono (by have := HS0.out; simp; omega)), below_call (below1 _ _) hb2⟩
set_option maxRecDepth 100000 in
set_option maxHeartbeats 2000000 in
theorem layPart6 (L : List Value) (c : Cl) (w0 w : World) (h : Cc w0 L c) (hb0 : Below w0.heap.size w0 w) (hb : inB c = true) : Calls Try.prog 61 #[.agg L.toArray, .int .i64 6] w fun e w' => ∃ a n c', e = .returned (.slice a n c') ∧ Lr w0 w' a n c' (layP c 6) ∧ Below w.heap.size w w' := by
  have hok := all_okP hb (by obtain ⟨d, g, e, hi⟩ := h.ex; exact hi.hi) (by obtain ⟨d, g, e, hi⟩ := h.ex; exact hi.lo) 6
  obtain ⟨d, g, rfl, hi⟩ := h.ex
  obtain ⟨op, by_, size, obj, hI, lo, given, rights, off, n, data, index, gifts⟩ := c
  obtain ⟨da, dn, dc⟩ := d
  obtain ⟨ga, gn, gc⟩ := g
  have HS0 := hid hb0.size
  have X1 := Bx.new w (cC ⟨op, by_, size, obj, hI, lo, given, rights, off, n, data, index, gifts⟩ ⟨da, dn, dc⟩ ⟨ga, gn, gc⟩) 41
  have hc := X1.cell 9 rfl
  clear X1 hok hi hb h hb0
  go_enter Try.func61, Try.ntmps61
  go_wp2_with (first | (go_at_call 82; refine (laySigned_any _ _).mono ?_; rintro e w2 ⟨a2, c2, rfl, hown, hb2⟩))
  go_ret
  exact ⟨_, _, _, rfl, .inr (hown.mono (by have := HS0.out; simp; omega)), below_call (below1 _ _) hb2⟩
set_option maxRecDepth 100000 in
set_option maxHeartbeats 2000000 in
theorem layPart7 (L : List Value) (c : Cl) (w0 w : World) (h : Cc w0 L c) (hb0 : Below w0.heap.size w0 w) (hb : inB c = true) : Calls Try.prog 61 #[.agg L.toArray, .int .i64 7] w fun e w' => ∃ a n c', e = .returned (.slice a n c') ∧ Lr w0 w' a n c' (layP c 7) ∧ Below w.heap.size w w' := by
  have hok := all_okP hb (by obtain ⟨d, g, e, hi⟩ := h.ex; exact hi.hi) (by obtain ⟨d, g, e, hi⟩ := h.ex; exact hi.lo) 7
  obtain ⟨d, g, rfl, hi⟩ := h.ex
  obtain ⟨op, by_, size, obj, hI, lo, given, rights, off, n, data, index, gifts⟩ := c
  obtain ⟨da, dn, dc⟩ := d
  obtain ⟨ga, gn, gc⟩ := g
  have HS0 := hid hb0.size
  have X1 := Bx.new w (cC ⟨op, by_, size, obj, hI, lo, given, rights, off, n, data, index, gifts⟩ ⟨da, dn, dc⟩ ⟨ga, gn, gc⟩) 41
  have hc := X1.cell 10 rfl
  have HD := hid hi.data
  clear X1 hok hi hb h hb0
  go_enter Try.func61, Try.ntmps61
  go_wp2
  go_ret
  exact ⟨_, _, _, rfl, .inl HD.out, below1 _ _⟩
set_option maxRecDepth 100000 in
set_option maxHeartbeats 2000000 in
theorem layPart8 (L : List Value) (c : Cl) (w0 w : World) (h : Cc w0 L c) (hb0 : Below w0.heap.size w0 w) (hb : inB c = true) : Calls Try.prog 61 #[.agg L.toArray, .int .i64 8] w fun e w' => ∃ a n c', e = .returned (.slice a n c') ∧ Lr w0 w' a n c' (layP c 8) ∧ Below w.heap.size w w' := by
  have hok := all_okP hb (by obtain ⟨d, g, e, hi⟩ := h.ex; exact hi.hi) (by obtain ⟨d, g, e, hi⟩ := h.ex; exact hi.lo) 8
  obtain ⟨d, g, rfl, hi⟩ := h.ex
  obtain ⟨op, by_, size, obj, hI, lo, given, rights, off, n, data, index, gifts⟩ := c
  obtain ⟨da, dn, dc⟩ := d
  obtain ⟨ga, gn, gc⟩ := g
  have HS0 := hid hb0.size
  have X1 := Bx.new w (cC ⟨op, by_, size, obj, hI, lo, given, rights, off, n, data, index, gifts⟩ ⟨da, dn, dc⟩ ⟨ga, gn, gc⟩) 41
  have hB := wi_iff.1 (hok.2.2.2.2.2.2.2.1 rfl)
  simp only at hB
  obtain ⟨m, hm⟩ : ∃ m : Nat, index = (m : Int) := ⟨index.toNat, by omega⟩
  subst hm
  have ew : IntKind.u16.wrap (m : Int) = (m : Int) := by rw [IntKind.wrap_u16]; omega
  have HM : Hid (m < 65536) := by unfold Hid; omega
  have hc := X1.cell 11 rfl
  clear X1 hok hi hb h hb0 hB
  go_enter Try.func61, Try.ntmps61
  go_wp2_with (first | (go_at_call 46; refine (p16 m HM.out _).mono ?_; rintro e w2 ⟨a2, c2, rfl, hown, hb2⟩))
  go_ret
  exact ⟨_, _, _, rfl, .inr (hown.mono (by have := HS0.out; simp; omega)), below_call (below1 _ _) hb2⟩
set_option maxRecDepth 100000 in
set_option maxHeartbeats 2000000 in
theorem layPart9 (L : List Value) (c : Cl) (w0 w : World) (h : Cc w0 L c) (hb0 : Below w0.heap.size w0 w) (hb : inB c = true) : Calls Try.prog 61 #[.agg L.toArray, .int .i64 9] w fun e w' => ∃ a n c', e = .returned (.slice a n c') ∧ Lr w0 w' a n c' (layP c 9) ∧ Below w.heap.size w w' := by
  have hok := all_okP hb (by obtain ⟨d, g, e, hi⟩ := h.ex; exact hi.hi) (by obtain ⟨d, g, e, hi⟩ := h.ex; exact hi.lo) 9
  obtain ⟨d, g, rfl, hi⟩ := h.ex
  obtain ⟨op, by_, size, obj, hI, lo, given, rights, off, n, data, index, gifts⟩ := c
  obtain ⟨da, dn, dc⟩ := d
  obtain ⟨ga, gn, gc⟩ := g
  have HS0 := hid hb0.size
  have X1 := Bx.new w (cC ⟨op, by_, size, obj, hI, lo, given, rights, off, n, data, index, gifts⟩ ⟨da, dn, dc⟩ ⟨ga, gn, gc⟩) 41
  have hc := X1.cell 12 rfl
  have H9 := hid (hok.2.2.2.2.2.2.2.2 rfl)
  have HR : Hid (∀ o, RI (w.alloc o) ga gn gc gifts) := fun o => (hi.gifts.later hb0).later (below1 _ _)
  clear X1 hok hi hb h hb0
  go_enter Try.func61, Try.ntmps61
  go_wp2_with (first | (go_at_call 86; refine (layGifts_any ga gn gc gifts _ (HR.out _) H9.out).mono ?_; rintro e w2 ⟨a2, n2, c2, rfl, hown, hb2⟩))
  go_ret
  exact ⟨_, _, _, rfl, .inr (hown.mono (by have := HS0.out; simp; omega)), below_call (below1 _ _) hb2⟩
theorem layPart_any (p : Nat) (hp : p < 10) (L : List Value) (c : Cl) (w0 w : World) (h : Cc w0 L c) (hb0 : Below w0.heap.size w0 w) (hb : inB c = true) : Calls Try.prog 61 #[.agg L.toArray, .int .i64 (p : Int)] w fun e w' => ∃ a n c', e = .returned (.slice a n c') ∧ Lr w0 w' a n c' (layP c p) ∧ Below w.heap.size w w' := by
  rcases (by omega : p = 0 ∨ p = 1 ∨ p = 2 ∨ p = 3 ∨ p = 4 ∨ p = 5 ∨ p = 6 ∨ p = 7 ∨ p = 8 ∨ p = 9) with rfl | rfl | rfl | rfl | rfl | rfl | rfl | rfl | rfl | rfl
  · exact layPart0 L c w0 w h hb0 hb
  · exact layPart1 L c w0 w h hb0 hb
  · exact layPart2 L c w0 w h hb0 hb
  · exact layPart3 L c w0 w h hb0 hb
  · exact layPart4 L c w0 w h hb0 hb
  · exact layPart5 L c w0 w h hb0 hb
  · exact layPart6 L c w0 w h hb0 hb
  · exact layPart7 L c w0 w h hb0 hb
  · exact layPart8 L c w0 w h hb0 hb
  · exact layPart9 L c w0 w h hb0 hb
end Go.Proofs.Ytaffgoacbiedlaa
