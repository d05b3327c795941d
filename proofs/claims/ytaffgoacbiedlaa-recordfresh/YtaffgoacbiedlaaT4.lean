import Derived.Test.YtaffgoacbiedlaaP4
namespace Go.Proofs.Ytaffgoacbiedlaa
open Go.RowKit
set_option linter.unusedVariables false
set_option linter.unusedSimpArgs false

theorem load41m (W : World) (o : Obj) (b : Nat) (cs : List Value) (hb : b = W.heap.size) (hl : cs.length = 13) : (loadVar 41 ⟨b, 0, none⟩).run Try.prog ((W.alloc (.cells cs.toArray 41)).alloc o) = .ok (.agg cs.toArray) ((W.alloc (.cells cs.toArray 41)).alloc o) := by
  subst hb
  exact lv41 ((Bx.new W cs 41).later (below1 _ o)).range hl
set_option maxRecDepth 100000 in
set_option maxHeartbeats 4000000 in
theorem kept1 (by_ size obj : Int) (hi lo : Nat) (given : Bool) (rights off n : Int) (da : Option Addr) (dn dc : Nat) (index : Int) (ga : Option Addr) (gn gc : Nat) (w : World) : Calls Try.prog 35 #[.agg #[.int .i64 1, .int .i64 by_, .int .i64 size, .int .i64 obj, .int .u64 (hi : Int), .int .u64 (lo : Int), .bool given, .int .i64 rights, .int .i64 off, .int .i64 n, .slice da dn dc, .int .i64 index, .slice ga gn gc]] w fun e w' => e = .returned (.agg #[.int .i64 1, .int .i64 by_, .int .i64 size, .int .i64 0, .int .u64 0, .int .u64 0, .bool false, .int .i64 0, .int .i64 0, .int .i64 0, .slice none 0 0, .int .i64 0, .slice none 0 0]) ∧ Below w.heap.size w w' := by
  go_enter Try.func35, Try.ntmps35
  go_wp2
  exact bodyPost_ret (by simp [results, Try.results35, asAddr, load41m]) rfl ⟨rfl, (below2 _ _ _).alloc (by simp; omega) _⟩
set_option maxRecDepth 100000 in
set_option maxHeartbeats 4000000 in
theorem kept2 (by_ size obj : Int) (hi lo : Nat) (given : Bool) (rights off n : Int) (da : Option Addr) (dn dc : Nat) (index : Int) (ga : Option Addr) (gn gc : Nat) (w : World) : Calls Try.prog 35 #[.agg #[.int .i64 2, .int .i64 by_, .int .i64 size, .int .i64 obj, .int .u64 (hi : Int), .int .u64 (lo : Int), .bool given, .int .i64 rights, .int .i64 off, .int .i64 n, .slice da dn dc, .int .i64 index, .slice ga gn gc]] w fun e w' => e = .returned (.agg #[.int .i64 2, .int .i64 by_, .int .i64 0, .int .i64 obj, .int .u64 (hi : Int), .int .u64 (lo : Int), .bool false, .int .i64 0, .int .i64 0, .int .i64 0, .slice none 0 0, .int .i64 0, .slice none 0 0]) ∧ Below w.heap.size w w' := by
  go_enter Try.func35, Try.ntmps35
  go_wp2
  exact bodyPost_ret (by simp [results, Try.results35, asAddr, load41m]) rfl ⟨rfl, (below2 _ _ _).alloc (by simp; omega) _⟩
set_option maxRecDepth 100000 in
set_option maxHeartbeats 4000000 in
theorem kept4 (by_ size obj : Int) (hi lo : Nat) (given : Bool) (rights off n : Int) (da : Option Addr) (dn dc : Nat) (index : Int) (ga : Option Addr) (gn gc : Nat) (w : World) : Calls Try.prog 35 #[.agg #[.int .i64 4, .int .i64 by_, .int .i64 size, .int .i64 obj, .int .u64 (hi : Int), .int .u64 (lo : Int), .bool given, .int .i64 rights, .int .i64 off, .int .i64 n, .slice da dn dc, .int .i64 index, .slice ga gn gc]] w fun e w' => e = .returned (.agg #[.int .i64 4, .int .i64 by_, .int .i64 0, .int .i64 obj, .int .u64 (hi : Int), .int .u64 (lo : Int), .bool false, .int .i64 0, .int .i64 0, .int .i64 0, .slice none 0 0, .int .i64 0, .slice none 0 0]) ∧ Below w.heap.size w w' := by
  go_enter Try.func35, Try.ntmps35
  go_wp2
  exact bodyPost_ret (by simp [results, Try.results35, asAddr, load41m]) rfl ⟨rfl, (below2 _ _ _).alloc (by simp; omega) _⟩
set_option maxRecDepth 100000 in
set_option maxHeartbeats 4000000 in
theorem kept7 (by_ size obj : Int) (hi lo : Nat) (given : Bool) (rights off n : Int) (da : Option Addr) (dn dc : Nat) (index : Int) (ga : Option Addr) (gn gc : Nat) (w : World) : Calls Try.prog 35 #[.agg #[.int .i64 7, .int .i64 by_, .int .i64 size, .int .i64 obj, .int .u64 (hi : Int), .int .u64 (lo : Int), .bool given, .int .i64 rights, .int .i64 off, .int .i64 n, .slice da dn dc, .int .i64 index, .slice ga gn gc]] w fun e w' => e = .returned (.agg #[.int .i64 7, .int .i64 by_, .int .i64 0, .int .i64 obj, .int .u64 (hi : Int), .int .u64 (lo : Int), .bool false, .int .i64 0, .int .i64 0, .int .i64 0, .slice none 0 0, .int .i64 0, .slice none 0 0]) ∧ Below w.heap.size w w' := by
  go_enter Try.func35, Try.ntmps35
  go_wp2
  exact bodyPost_ret (by simp [results, Try.results35, asAddr, load41m]) rfl ⟨rfl, (below2 _ _ _).alloc (by simp; omega) _⟩
set_option maxRecDepth 100000 in
set_option maxHeartbeats 4000000 in
theorem kept3 (by_ size obj : Int) (hi lo : Nat) (given : Bool) (rights off n : Int) (da : Option Addr) (dn dc : Nat) (index : Int) (ga : Option Addr) (gn gc : Nat) (w : World) : Calls Try.prog 35 #[.agg #[.int .i64 3, .int .i64 by_, .int .i64 size, .int .i64 obj, .int .u64 (hi : Int), .int .u64 (lo : Int), .bool given, .int .i64 rights, .int .i64 off, .int .i64 n, .slice da dn dc, .int .i64 index, .slice ga gn gc]] w fun e w' => e = .returned (.agg #[.int .i64 3, .int .i64 by_, .int .i64 0, .int .i64 obj, .int .u64 (hi : Int), .int .u64 (lo : Int), .bool false, .int .i64 rights, .int .i64 0, .int .i64 0, .slice none 0 0, .int .i64 0, .slice none 0 0]) ∧ Below w.heap.size w w' := by
  go_enter Try.func35, Try.ntmps35
  go_wp2
  exact bodyPost_ret (by simp [results, Try.results35, asAddr, load41m]) rfl ⟨rfl, (below2 _ _ _).alloc (by simp; omega) _⟩
set_option maxRecDepth 100000 in
set_option maxHeartbeats 4000000 in
theorem kept5t (by_ size obj : Int) (hi lo : Nat) (rights off n : Int) (da : Option Addr) (dn dc : Nat) (index : Int) (ga : Option Addr) (gn gc : Nat) (w : World) : Calls Try.prog 35 #[.agg #[.int .i64 5, .int .i64 by_, .int .i64 size, .int .i64 obj, .int .u64 (hi : Int), .int .u64 (lo : Int), .bool true, .int .i64 rights, .int .i64 off, .int .i64 n, .slice da dn dc, .int .i64 index, .slice ga gn gc]] w fun e w' => e = .returned (.agg #[.int .i64 5, .int .i64 by_, .int .i64 0, .int .i64 obj, .int .u64 (hi : Int), .int .u64 (lo : Int), .bool true, .int .i64 0, .int .i64 off, .int .i64 n, .slice none 0 0, .int .i64 0, .slice none 0 0]) ∧ Below w.heap.size w w' := by
  go_enter Try.func35, Try.ntmps35
  go_wp2
  exact bodyPost_ret (by simp [results, Try.results35, asAddr, load41m]) rfl ⟨rfl, (below2 _ _ _).alloc (by simp; omega) _⟩
set_option maxRecDepth 100000 in
set_option maxHeartbeats 4000000 in
theorem kept5f (by_ size obj : Int) (hi lo : Nat) (rights off n : Int) (da : Option Addr) (dn dc : Nat) (index : Int) (ga : Option Addr) (gn gc : Nat) (w : World) : Calls Try.prog 35 #[.agg #[.int .i64 5, .int .i64 by_, .int .i64 size, .int .i64 obj, .int .u64 (hi : Int), .int .u64 (lo : Int), .bool false, .int .i64 rights, .int .i64 off, .int .i64 n, .slice da dn dc, .int .i64 index, .slice ga gn gc]] w fun e w' => e = .returned (.agg #[.int .i64 5, .int .i64 by_, .int .i64 0, .int .i64 obj, .int .u64 0, .int .u64 0, .bool false, .int .i64 0, .int .i64 off, .int .i64 n, .slice none 0 0, .int .i64 0, .slice none 0 0]) ∧ Below w.heap.size w w' := by
  go_enter Try.func35, Try.ntmps35
  go_wp2
  exact bodyPost_ret (by simp [results, Try.results35, asAddr, load41m]) rfl ⟨rfl, (below2 _ _ _).alloc (by simp; omega) _⟩
set_option maxRecDepth 100000 in
set_option maxHeartbeats 4000000 in
theorem kept6t (by_ size obj : Int) (hi lo : Nat) (rights off n : Int) (da : Option Addr) (dn dc : Nat) (index : Int) (ga : Option Addr) (gn gc : Nat) (w : World) : Calls Try.prog 35 #[.agg #[.int .i64 6, .int .i64 by_, .int .i64 size, .int .i64 obj, .int .u64 (hi : Int), .int .u64 (lo : Int), .bool true, .int .i64 rights, .int .i64 off, .int .i64 n, .slice da dn dc, .int .i64 index, .slice ga gn gc]] w fun e w' => e = .returned (.agg #[.int .i64 6, .int .i64 by_, .int .i64 0, .int .i64 obj, .int .u64 (hi : Int), .int .u64 (lo : Int), .bool true, .int .i64 0, .int .i64 off, .int .i64 0, .slice da dn dc, .int .i64 0, .slice none 0 0]) ∧ Below w.heap.size w w' := by
  go_enter Try.func35, Try.ntmps35
  go_wp2
  exact bodyPost_ret (by simp [results, Try.results35, asAddr, load41m]) rfl ⟨rfl, (below2 _ _ _).alloc (by simp; omega) _⟩
set_option maxRecDepth 100000 in
set_option maxHeartbeats 4000000 in
theorem kept6f (by_ size obj : Int) (hi lo : Nat) (rights off n : Int) (da : Option Addr) (dn dc : Nat) (index : Int) (ga : Option Addr) (gn gc : Nat) (w : World) : Calls Try.prog 35 #[.agg #[.int .i64 6, .int .i64 by_, .int .i64 size, .int .i64 obj, .int .u64 (hi : Int), .int .u64 (lo : Int), .bool false, .int .i64 rights, .int .i64 off, .int .i64 n, .slice da dn dc, .int .i64 index, .slice ga gn gc]] w fun e w' => e = .returned (.agg #[.int .i64 6, .int .i64 by_, .int .i64 0, .int .i64 obj, .int .u64 0, .int .u64 0, .bool false, .int .i64 0, .int .i64 off, .int .i64 0, .slice da dn dc, .int .i64 0, .slice none 0 0]) ∧ Below w.heap.size w w' := by
  go_enter Try.func35, Try.ntmps35
  go_wp2
  exact bodyPost_ret (by simp [results, Try.results35, asAddr, load41m]) rfl ⟨rfl, (below2 _ _ _).alloc (by simp; omega) _⟩
set_option maxRecDepth 100000 in
set_option maxHeartbeats 4000000 in
theorem kept8 (by_ size obj : Int) (hi lo : Nat) (given : Bool) (rights off n : Int) (da : Option Addr) (dn dc : Nat) (index : Int) (ga : Option Addr) (gn gc : Nat) (w : World) : Calls Try.prog 35 #[.agg #[.int .i64 8, .int .i64 by_, .int .i64 size, .int .i64 obj, .int .u64 (hi : Int), .int .u64 (lo : Int), .bool given, .int .i64 rights, .int .i64 off, .int .i64 n, .slice da dn dc, .int .i64 index, .slice ga gn gc]] w fun e w' => e = .returned (.agg #[.int .i64 8, .int .i64 by_, .int .i64 0, .int .i64 0, .int .u64 0, .int .u64 0, .bool false, .int .i64 0, .int .i64 0, .int .i64 0, .slice none 0 0, .int .i64 index, .slice none 0 0]) ∧ Below w.heap.size w w' := by
  go_enter Try.func35, Try.ntmps35
  go_wp2
  exact bodyPost_ret (by simp [results, Try.results35, asAddr, load41m]) rfl ⟨rfl, (below2 _ _ _).alloc (by simp; omega) _⟩
set_option maxRecDepth 100000 in
set_option maxHeartbeats 4000000 in
theorem kept9 (by_ size obj : Int) (hi lo : Nat) (given : Bool) (rights off n : Int) (da : Option Addr) (dn dc : Nat) (index : Int) (ga : Option Addr) (gn gc : Nat) (w : World) : Calls Try.prog 35 #[.agg #[.int .i64 9, .int .i64 by_, .int .i64 size, .int .i64 obj, .int .u64 (hi : Int), .int .u64 (lo : Int), .bool given, .int .i64 rights, .int .i64 off, .int .i64 n, .slice da dn dc, .int .i64 index, .slice ga gn gc]] w fun e w' => e = .returned (.agg #[.int .i64 9, .int .i64 by_, .int .i64 0, .int .i64 0, .int .u64 0, .int .u64 0, .bool false, .int .i64 0, .int .i64 0, .int .i64 0, .slice none 0 0, .int .i64 0, .slice ga gn gc]) ∧ Below w.heap.size w w' := by
  go_enter Try.func35, Try.ntmps35
  go_wp2
  exact bodyPost_ret (by simp [results, Try.results35, asAddr, load41m]) rfl ⟨rfl, (below2 _ _ _).alloc (by simp; omega) _⟩
set_option maxRecDepth 100000 in
set_option maxHeartbeats 4000000 in
theorem kept0 (op by_ size obj : Int) (hi lo : Nat) (given : Bool) (rights off n : Int) (da : Option Addr) (dn dc : Nat) (index : Int) (ga : Option Addr) (gn gc : Nat) (w : World) (b1 : (op == 1) = false) (b2 : (op == 2) = false) (b3 : (op == 3) = false) (b4 : (op == 4) = false) (b5 : (op == 5) = false) (b6 : (op == 6) = false) (b7 : (op == 7) = false) (b8 : (op == 8) = false) (b9 : (op == 9) = false) : Calls Try.prog 35 #[.agg #[.int .i64 op, .int .i64 by_, .int .i64 size, .int .i64 obj, .int .u64 (hi : Int), .int .u64 (lo : Int), .bool given, .int .i64 rights, .int .i64 off, .int .i64 n, .slice da dn dc, .int .i64 index, .slice ga gn gc]] w fun e w' => e = .returned (.agg #[.int .i64 op, .int .i64 by_, .int .i64 0, .int .i64 0, .int .u64 0, .int .u64 0, .bool false, .int .i64 0, .int .i64 0, .int .i64 0, .slice none 0 0, .int .i64 0, .slice none 0 0]) ∧ Below w.heap.size w w' := by
  go_enter Try.func35, Try.ntmps35
  go_wp2
  exact bodyPost_ret (by simp [results, Try.results35, asAddr, load41m]) rfl ⟨rfl, (below2 _ _ _).alloc (by simp; omega) _⟩
theorem kept_c (L : List Value) (c : Cl) (w : World) (h : Cc w L c) : Calls Try.prog 35 #[.agg L.toArray] w fun e w' => ∃ L', e = .returned (.agg L'.toArray) ∧ Cc w L' (kp c) ∧ Below w.heap.size w w' := by
  obtain ⟨⟨da, dn, dc⟩, ⟨ga, gn, gc⟩, rfl, hi1⟩ := h.ex
  obtain ⟨op, by_, size, obj, hi, lo, given, rights, off, n, data, index, gifts⟩ := c
  obtain ⟨i1, i2, i3, i4⟩ := hi1
  by_cases o1 : op = 1
  · subst o1
    refine (kept1 by_ size obj hi lo given rights off n da dn dc index ga gn gc w).mono ?_
    rintro e w' ⟨rfl, hb⟩
    exact ⟨cC (kp _) Sl.nil Sl.nil, rfl, ⟨Sl.nil, Sl.nil, rfl, row_nil _, RI.nil _, (by show (0 : Nat) < 18446744073709551616; omega), (by show (0 : Nat) < 18446744073709551616; omega)⟩, hb⟩
  by_cases o2 : op = 2
  · subst o2
    refine (kept2 by_ size obj hi lo given rights off n da dn dc index ga gn gc w).mono ?_
    rintro e w' ⟨rfl, hb⟩
    exact ⟨cC (kp _) Sl.nil Sl.nil, rfl, ⟨Sl.nil, Sl.nil, rfl, row_nil _, RI.nil _, i3, i4⟩, hb⟩
  by_cases o4 : op = 4
  · subst o4
    refine (kept4 by_ size obj hi lo given rights off n da dn dc index ga gn gc w).mono ?_
    rintro e w' ⟨rfl, hb⟩
    exact ⟨cC (kp _) Sl.nil Sl.nil, rfl, ⟨Sl.nil, Sl.nil, rfl, row_nil _, RI.nil _, i3, i4⟩, hb⟩
  by_cases o7 : op = 7
  · subst o7
    refine (kept7 by_ size obj hi lo given rights off n da dn dc index ga gn gc w).mono ?_
    rintro e w' ⟨rfl, hb⟩
    exact ⟨cC (kp _) Sl.nil Sl.nil, rfl, ⟨Sl.nil, Sl.nil, rfl, row_nil _, RI.nil _, i3, i4⟩, hb⟩
  by_cases o3 : op = 3
  · subst o3
    refine (kept3 by_ size obj hi lo given rights off n da dn dc index ga gn gc w).mono ?_
    rintro e w' ⟨rfl, hb⟩
    exact ⟨cC (kp _) Sl.nil Sl.nil, rfl, ⟨Sl.nil, Sl.nil, rfl, row_nil _, RI.nil _, i3, i4⟩, hb⟩
  by_cases o5 : op = 5
  · subst o5
    cases given with
    | true =>
      refine (kept5t by_ size obj hi lo rights off n da dn dc index ga gn gc w).mono ?_
      rintro e w' ⟨rfl, hb⟩
      exact ⟨cC (kp _) Sl.nil Sl.nil, rfl, ⟨Sl.nil, Sl.nil, rfl, row_nil _, RI.nil _, i3, i4⟩, hb⟩
    | false =>
      refine (kept5f by_ size obj hi lo rights off n da dn dc index ga gn gc w).mono ?_
      rintro e w' ⟨rfl, hb⟩
      exact ⟨cC (kp _) Sl.nil Sl.nil, rfl, ⟨Sl.nil, Sl.nil, rfl, row_nil _, RI.nil _, (by show (0 : Nat) < 18446744073709551616; omega), (by show (0 : Nat) < 18446744073709551616; omega)⟩, hb⟩
  by_cases o6 : op = 6
  · subst o6
    cases given with
    | true =>
      refine (kept6t by_ size obj hi lo rights off n da dn dc index ga gn gc w).mono ?_
      rintro e w' ⟨rfl, hb⟩
      exact ⟨cC (kp _) ⟨da, dn, dc⟩ Sl.nil, rfl, ⟨⟨da, dn, dc⟩, Sl.nil, rfl, i1, RI.nil _, i3, i4⟩, hb⟩
    | false =>
      refine (kept6f by_ size obj hi lo rights off n da dn dc index ga gn gc w).mono ?_
      rintro e w' ⟨rfl, hb⟩
      exact ⟨cC (kp _) ⟨da, dn, dc⟩ Sl.nil, rfl, ⟨⟨da, dn, dc⟩, Sl.nil, rfl, i1, RI.nil _, (by show (0 : Nat) < 18446744073709551616; omega), (by show (0 : Nat) < 18446744073709551616; omega)⟩, hb⟩
  by_cases o8 : op = 8
  · subst o8
    refine (kept8 by_ size obj hi lo given rights off n da dn dc index ga gn gc w).mono ?_
    rintro e w' ⟨rfl, hb⟩
    exact ⟨cC (kp _) Sl.nil Sl.nil, rfl, ⟨Sl.nil, Sl.nil, rfl, row_nil _, RI.nil _, (by show (0 : Nat) < 18446744073709551616; omega), (by show (0 : Nat) < 18446744073709551616; omega)⟩, hb⟩
  by_cases o9 : op = 9
  · subst o9
    refine (kept9 by_ size obj hi lo given rights off n da dn dc index ga gn gc w).mono ?_
    rintro e w' ⟨rfl, hb⟩
    exact ⟨cC (kp _) Sl.nil ⟨ga, gn, gc⟩, rfl, ⟨Sl.nil, ⟨ga, gn, gc⟩, rfl, row_nil _, i2, (by show (0 : Nat) < 18446744073709551616; omega), (by show (0 : Nat) < 18446744073709551616; omega)⟩, hb⟩
  have hk : kp ⟨op, by_, size, obj, hi, lo, given, rights, off, n, data, index, gifts⟩ = clz op by_ := by
    unfold kp kp0 partsL
    simp only
    rw [if_neg (by simp [o5, o6]), if_neg o1, if_neg (by omega), if_neg o3, if_neg o5, if_neg o6, if_neg o8, if_neg o9]
    rfl
  rw [hk]
  refine (kept0 op by_ size obj hi lo given rights off n da dn dc index ga gn gc w (by simpa using o1) (by simpa using o2) (by simpa using o3) (by simpa using o4) (by simpa using o5) (by simpa using o6) (by simpa using o7) (by simpa using o8) (by simpa using o9)).mono ?_
  rintro e w' ⟨rfl, hb⟩
  exact ⟨cC (clz op by_) Sl.nil Sl.nil, rfl, ⟨Sl.nil, Sl.nil, rfl, row_nil _, RI.nil _, (by show (0 : Nat) < 18446744073709551616; omega), (by show (0 : Nat) < 18446744073709551616; omega)⟩, hb⟩
end Go.Proofs.Ytaffgoacbiedlaa
