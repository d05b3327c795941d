import Derived.Test.YtjncgpekmilpeaaE3
namespace Go.Proofs.Ytjncgpekmilpeaa
open Go.RowKit
set_option linter.unusedVariables false

set_option maxRecDepth 100000 in
set_option maxHeartbeats 2000000 in
theorem back_0 (g gb : Nat) (R : List Nat) (t : It) (w : World) (r : Rd w g gb (t.enc ++ R)) (ht : t.Good w) (hl : t.Laid) (hr : (t.enc ++ R).length ≤ 140737488355328) (hne : ∀ k, Blk t.a k → t.L ≠ [] → k ≠ g) (hk : t.kd % 7 = 0) :
    Calls Try.prog 23 #[.pointer (some ⟨g, 0, none⟩), .agg #[.int .i64 t.kd, .int .u64 (t.v : Int), .int .i64 t.o, .int .u64 (t.hi : Int), .int .u64 (t.lo : Int), .slice t.a t.n t.c]] w fun e w' => e = .returned (.bool true) ∧ Rd w' g gb R ∧ But (· = g) w w' := by
  have hg := r.lt
  have X := IBox.new w t
  replace r := r.alloc (Obj.cells #[.int .i64 t.kd, .int .u64 (t.v : Int), .int .i64 t.o, .int .u64 (t.hi : Int), .int .u64 (t.lo : Int), .slice t.a t.n t.c] 51)
  have R1 := ht.row.alloc (Obj.cells #[.int .i64 t.kd, .int .u64 (t.v : Int), .int .i64 t.o, .int .u64 (t.hi : Int), .int .u64 (t.lo : Int), .slice t.a t.n t.c] 51)
  have hb0 := below1 w (Obj.cells #[.int .i64 t.kd, .int .u64 (t.v : Int), .int .i64 t.o, .int .u64 (t.hi : Int), .int .u64 (t.lo : Int), .slice t.a t.n t.c] 51)
  have HG : Hid (t.v < 18446744073709551616 ∧ t.hi < 18446744073709551616 ∧ t.lo < 18446744073709551616) := ⟨ht.v, ht.hi, ht.lo⟩
  have HR : Hid ((t.enc ++ R).length ≤ 140737488355328) := hr
  have x0 := X.c0
  have x1 := X.c1
  have x2 := X.c2
  have x3 := X.c3
  have x4 := X.c4
  have x5 := X.c5
  have he := enc0 hk
  obtain ⟨q, hq⟩ : ∃ q, q = t.v % 256 := ⟨_, rfl⟩
  have hand := and_low t.v 8 HG.out.1 (by omega)
  have hand2 : bits .and .u64 (t.v : Int) 255 = (q : Int) := by rw [hq]; exact hand
  have hql : q < 256 := by omega
  rw [he, ← hq] at r HR
  clear hq hand
  obtain ⟨f1, f2, f3⟩ : lookV (leL q 1 ++ R) 1 = q ∧ lookE (leL q 1 ++ R) 1 = 0 ∧ (leL q 1 ++ R).drop (numN (leL q 1 ++ R) 1) = R := look_enc q 1 R (by decide) (by omega)
  clear ht hr he
  go_enter Try.func23, Try.ntmps23
  go_upto_region 2 with (first | (go_at_call 48; refine (kind_any t _).mono ?_; rintro e w1 ⟨rfl, hb⟩; rw [hk]; replace hb0 := below_call hb0 hb; replace r := r.later hb; replace R1 := R1.later hb; replace X := X.later hb; clear hb x0 x1 x2 x3 x4 x5))
  have x1 := X.c1
  have x2 := X.c2
  have x3 := X.c3
  have x4 := X.c4
  have x5 := X.c5
  go_wp2_with (first | (go_at_call 25; refine (number_any g gb (leL q 1 ++ R) 1 _ r).mono ?_; rintro e w2 ⟨rfl, r1, hbut⟩; rw [f1, f2]; rw [f3] at r1; replace X := X.but hbut (by omega); clear x1 x2 x3 x4 x5; have x1 := X.c1; have x2 := X.c2; have x3 := X.c3; have x4 := X.c4; have x5 := X.c5))
  go_ret
  exact ⟨rfl, r1, (But.of hb0).trans hbut⟩

set_option maxRecDepth 100000 in
set_option maxHeartbeats 2000000 in
theorem back_2 (g gb : Nat) (R : List Nat) (t : It) (w : World) (r : Rd w g gb (t.enc ++ R)) (ht : t.Good w) (hl : t.Laid) (hr : (t.enc ++ R).length ≤ 140737488355328) (hne : ∀ k, Blk t.a k → t.L ≠ [] → k ≠ g) (hk : t.kd % 7 = 2) :
    Calls Try.prog 23 #[.pointer (some ⟨g, 0, none⟩), .agg #[.int .i64 t.kd, .int .u64 (t.v : Int), .int .i64 t.o, .int .u64 (t.hi : Int), .int .u64 (t.lo : Int), .slice t.a t.n t.c]] w fun e w' => e = .returned (.bool true) ∧ Rd w' g gb R ∧ But (· = g) w w' := by
  have hg := r.lt
  have X := IBox.new w t
  replace r := r.alloc (Obj.cells #[.int .i64 t.kd, .int .u64 (t.v : Int), .int .i64 t.o, .int .u64 (t.hi : Int), .int .u64 (t.lo : Int), .slice t.a t.n t.c] 51)
  have R1 := ht.row.alloc (Obj.cells #[.int .i64 t.kd, .int .u64 (t.v : Int), .int .i64 t.o, .int .u64 (t.hi : Int), .int .u64 (t.lo : Int), .slice t.a t.n t.c] 51)
  have hb0 := below1 w (Obj.cells #[.int .i64 t.kd, .int .u64 (t.v : Int), .int .i64 t.o, .int .u64 (t.hi : Int), .int .u64 (t.lo : Int), .slice t.a t.n t.c] 51)
  have HG : Hid (t.v < 18446744073709551616 ∧ t.hi < 18446744073709551616 ∧ t.lo < 18446744073709551616) := ⟨ht.v, ht.hi, ht.lo⟩
  have HR : Hid ((t.enc ++ R).length ≤ 140737488355328) := hr
  have x0 := X.c0
  have x1 := X.c1
  have x2 := X.c2
  have x3 := X.c3
  have x4 := X.c4
  have x5 := X.c5
  have he := enc2 hk
  obtain ⟨q, hq⟩ : ∃ q, q = t.v % 4294967296 := ⟨_, rfl⟩
  have hand := and_low t.v 32 HG.out.1 (by omega)
  have hand2 : bits .and .u64 (t.v : Int) 4294967295 = (q : Int) := by rw [hq]; exact hand
  have hql : q < 4294967296 := by omega
  rw [he, ← hq] at r HR
  clear hq hand
  obtain ⟨f1, f2, f3⟩ : lookV (leL q 4 ++ R) 4 = q ∧ lookE (leL q 4 ++ R) 4 = 0 ∧ (leL q 4 ++ R).drop (numN (leL q 4 ++ R) 4) = R := look_enc q 4 R (by decide) (by omega)
  clear ht hr he
  go_enter Try.func23, Try.ntmps23
  go_upto_region 2 with (first | (go_at_call 48; refine (kind_any t _).mono ?_; rintro e w1 ⟨rfl, hb⟩; rw [hk]; replace hb0 := below_call hb0 hb; replace r := r.later hb; replace R1 := R1.later hb; replace X := X.later hb; clear hb x0 x1 x2 x3 x4 x5))
  have x1 := X.c1
  have x2 := X.c2
  have x3 := X.c3
  have x4 := X.c4
  have x5 := X.c5
  go_wp2_with (first | (go_at_call 25; refine (number_any g gb (leL q 4 ++ R) 4 _ r).mono ?_; rintro e w2 ⟨rfl, r1, hbut⟩; rw [f1, f2]; rw [f3] at r1; replace X := X.but hbut (by omega); clear x1 x2 x3 x4 x5; have x1 := X.c1; have x2 := X.c2; have x3 := X.c3; have x4 := X.c4; have x5 := X.c5))
  go_ret
  exact ⟨rfl, r1, (But.of hb0).trans hbut⟩

set_option maxRecDepth 100000 in
set_option maxHeartbeats 2000000 in
theorem back_1 (g gb : Nat) (R : List Nat) (t : It) (w : World) (r : Rd w g gb (t.enc ++ R)) (ht : t.Good w) (hl : t.Laid) (hr : (t.enc ++ R).length ≤ 140737488355328) (hne : ∀ k, Blk t.a k → t.L ≠ [] → k ≠ g) (hk : t.kd % 7 = 1) :
    Calls Try.prog 23 #[.pointer (some ⟨g, 0, none⟩), .agg #[.int .i64 t.kd, .int .u64 (t.v : Int), .int .i64 t.o, .int .u64 (t.hi : Int), .int .u64 (t.lo : Int), .slice t.a t.n t.c]] w fun e w' => e = .returned (.bool true) ∧ Rd w' g gb R ∧ But (· = g) w w' := by
  have hg := r.lt
  have X := IBox.new w t
  replace r := r.alloc (Obj.cells #[.int .i64 t.kd, .int .u64 (t.v : Int), .int .i64 t.o, .int .u64 (t.hi : Int), .int .u64 (t.lo : Int), .slice t.a t.n t.c] 51)
  have R1 := ht.row.alloc (Obj.cells #[.int .i64 t.kd, .int .u64 (t.v : Int), .int .i64 t.o, .int .u64 (t.hi : Int), .int .u64 (t.lo : Int), .slice t.a t.n t.c] 51)
  have hb0 := below1 w (Obj.cells #[.int .i64 t.kd, .int .u64 (t.v : Int), .int .i64 t.o, .int .u64 (t.hi : Int), .int .u64 (t.lo : Int), .slice t.a t.n t.c] 51)
  have HG : Hid (t.v < 18446744073709551616 ∧ t.hi < 18446744073709551616 ∧ t.lo < 18446744073709551616) := ⟨ht.v, ht.hi, ht.lo⟩
  have HR : Hid ((t.enc ++ R).length ≤ 140737488355328) := hr
  have x0 := X.c0
  have x1 := X.c1
  have x2 := X.c2
  have x3 := X.c3
  have x4 := X.c4
  have x5 := X.c5
  have he := enc1 hk
  obtain ⟨q, hq⟩ : ∃ q, q = t.v % 65536 := ⟨_, rfl⟩
  have hand := and_low t.v 16 HG.out.1 (by omega)
  have hand2 : bits .and .u64 (t.v : Int) 65535 = (q : Int) := by rw [hq]; exact hand
  have hql : q < 65536 := by omega
  rw [he, ← hq] at r HR
  clear hq hand
  have ewq : IntKind.i64.wrap (q : Int) = (q : Int) := by rw [IntKind.wrap_i64]; omega
  obtain ⟨f1, f2, f3⟩ : intV (leL q 2 ++ R) 2 65535 = q ∧ intE (leL q 2 ++ R) 2 65535 = 0 ∧ (leL q 2 ++ R).drop (intN (leL q 2 ++ R) 2 65535) = R := int_enc q 2 65535 R (by decide) (by omega) (by omega)
  clear ht hr he
  go_enter Try.func23, Try.ntmps23
  go_upto_region 2 with (first | (go_at_call 48; refine (kind_any t _).mono ?_; rintro e w1 ⟨rfl, hb⟩; rw [hk]; replace hb0 := below_call hb0 hb; replace r := r.later hb; replace R1 := R1.later hb; replace X := X.later hb; clear hb x0 x1 x2 x3 x4 x5))
  have x1 := X.c1
  have x2 := X.c2
  have x3 := X.c3
  have x4 := X.c4
  have x5 := X.c5
  go_wp2_with (first | (go_at_call 36; refine (int_any g gb (leL q 2 ++ R) 2 65535 _ r (by omega)).mono ?_; rintro e w2 ⟨rfl, r1, hbut⟩; rw [f1, f2]; rw [f3] at r1; replace X := X.but hbut (by omega); clear x1 x2 x3 x4 x5; have x1 := X.c1; have x2 := X.c2; have x3 := X.c3; have x4 := X.c4; have x5 := X.c5))
  go_ret
  exact ⟨rfl, r1, (But.of hb0).trans hbut⟩

set_option maxRecDepth 100000 in
set_option maxHeartbeats 2000000 in
theorem back_3 (g gb : Nat) (R : List Nat) (t : It) (w : World) (r : Rd w g gb (t.enc ++ R)) (ht : t.Good w) (hl : t.Laid) (hr : (t.enc ++ R).length ≤ 140737488355328) (hne : ∀ k, Blk t.a k → t.L ≠ [] → k ≠ g) (hk : t.kd % 7 = 3) :
    Calls Try.prog 23 #[.pointer (some ⟨g, 0, none⟩), .agg #[.int .i64 t.kd, .int .u64 (t.v : Int), .int .i64 t.o, .int .u64 (t.hi : Int), .int .u64 (t.lo : Int), .slice t.a t.n t.c]] w fun e w' => e = .returned (.bool true) ∧ Rd w' g gb R ∧ But (· = g) w w' := by
  have hg := r.lt
  have X := IBox.new w t
  replace r := r.alloc (Obj.cells #[.int .i64 t.kd, .int .u64 (t.v : Int), .int .i64 t.o, .int .u64 (t.hi : Int), .int .u64 (t.lo : Int), .slice t.a t.n t.c] 51)
  have R1 := ht.row.alloc (Obj.cells #[.int .i64 t.kd, .int .u64 (t.v : Int), .int .i64 t.o, .int .u64 (t.hi : Int), .int .u64 (t.lo : Int), .slice t.a t.n t.c] 51)
  have hb0 := below1 w (Obj.cells #[.int .i64 t.kd, .int .u64 (t.v : Int), .int .i64 t.o, .int .u64 (t.hi : Int), .int .u64 (t.lo : Int), .slice t.a t.n t.c] 51)
  have HG : Hid (t.v < 18446744073709551616 ∧ t.hi < 18446744073709551616 ∧ t.lo < 18446744073709551616) := ⟨ht.v, ht.hi, ht.lo⟩
  have HR : Hid ((t.enc ++ R).length ≤ 140737488355328) := hr
  have x0 := X.c0
  have x1 := X.c1
  have x2 := X.c2
  have x3 := X.c3
  have x4 := X.c4
  have x5 := X.c5
  have he := enc3 hk
  rw [he] at r HR
  obtain ⟨f1, f2, f3⟩ : lookV (leL t.v 8 ++ R) 8 = t.v ∧ lookE (leL t.v 8 ++ R) 8 = 0 ∧ (leL t.v 8 ++ R).drop (numN (leL t.v 8 ++ R) 8) = R := look_enc t.v 8 R (by decide) (by have := HG.out.1; omega)
  clear ht hr he
  go_enter Try.func23, Try.ntmps23
  go_upto_region 2 with (first | (go_at_call 48; refine (kind_any t _).mono ?_; rintro e w1 ⟨rfl, hb⟩; rw [hk]; replace hb0 := below_call hb0 hb; replace r := r.later hb; replace R1 := R1.later hb; replace X := X.later hb; clear hb x0 x1 x2 x3 x4 x5))
  have x1 := X.c1
  have x2 := X.c2
  have x3 := X.c3
  have x4 := X.c4
  have x5 := X.c5
  go_wp2_with (first | (go_at_call 25; refine (number_any g gb (leL t.v 8 ++ R) 8 _ r).mono ?_; rintro e w2 ⟨rfl, r1, hbut⟩; rw [f1, f2]; rw [f3] at r1; replace X := X.but hbut (by omega); clear x1 x2 x3 x4 x5; have x1 := X.c1; have x2 := X.c2; have x3 := X.c3; have x4 := X.c4; have x5 := X.c5))
  go_ret
  exact ⟨rfl, r1, (But.of hb0).trans hbut⟩

set_option maxRecDepth 100000 in
set_option maxHeartbeats 2000000 in
theorem back_4 (g gb : Nat) (R : List Nat) (t : It) (w : World) (r : Rd w g gb (t.enc ++ R)) (ht : t.Good w) (hl : t.Laid) (hr : (t.enc ++ R).length ≤ 140737488355328) (hne : ∀ k, Blk t.a k → t.L ≠ [] → k ≠ g) (hk : t.kd % 7 = 4) :
    Calls Try.prog 23 #[.pointer (some ⟨g, 0, none⟩), .agg #[.int .i64 t.kd, .int .u64 (t.v : Int), .int .i64 t.o, .int .u64 (t.hi : Int), .int .u64 (t.lo : Int), .slice t.a t.n t.c]] w fun e w' => e = .returned (.bool true) ∧ Rd w' g gb R ∧ But (· = g) w w' := by
  have hg := r.lt
  have X := IBox.new w t
  replace r := r.alloc (Obj.cells #[.int .i64 t.kd, .int .u64 (t.v : Int), .int .i64 t.o, .int .u64 (t.hi : Int), .int .u64 (t.lo : Int), .slice t.a t.n t.c] 51)
  have R1 := ht.row.alloc (Obj.cells #[.int .i64 t.kd, .int .u64 (t.v : Int), .int .i64 t.o, .int .u64 (t.hi : Int), .int .u64 (t.lo : Int), .slice t.a t.n t.c] 51)
  have hb0 := below1 w (Obj.cells #[.int .i64 t.kd, .int .u64 (t.v : Int), .int .i64 t.o, .int .u64 (t.hi : Int), .int .u64 (t.lo : Int), .slice t.a t.n t.c] 51)
  have HG : Hid (t.v < 18446744073709551616 ∧ t.hi < 18446744073709551616 ∧ t.lo < 18446744073709551616) := ⟨ht.v, ht.hi, ht.lo⟩
  have HR : Hid ((t.enc ++ R).length ≤ 140737488355328) := hr
  have x0 := X.c0
  have x1 := X.c1
  have x2 := X.c2
  have x3 := X.c3
  have x4 := X.c4
  have x5 := X.c5
  have he := enc4 hk
  have heq := eq25
  rw [he] at r HR
  obtain ⟨f1, f2, f3, f4⟩ := word_enc t.hi t.lo R HG.out.2.1 HG.out.2.2
  clear ht hr he
  go_enter Try.func23, Try.ntmps23
  go_upto_region 2 with (first | (go_at_call 48; refine (kind_any t _).mono ?_; rintro e w1 ⟨rfl, hb⟩; rw [hk]; replace hb0 := below_call hb0 hb; replace r := r.later hb; replace R1 := R1.later hb; replace X := X.later hb; clear hb x0 x1 x2 x3 x4 x5))
  have x1 := X.c1
  have x2 := X.c2
  have x3 := X.c3
  have x4 := X.c4
  have x5 := X.c5
  go_upto_region 16 with (first | (go_at_call 49; refine (word_any g gb (leL t.lo 8 ++ leL t.hi 8 ++ R) _ r).mono ?_; rintro e w2 ⟨rfl, r1, hbut⟩; rw [f1, f2, f3]; rw [f4] at r1; replace X := (X.but hbut (by omega)).later (below1 w2 (Obj.cells #[.int .u64 (t.hi : Int), .int .u64 (t.lo : Int)] 25)); replace r1 := r1.alloc (Obj.cells #[.int .u64 (t.hi : Int), .int .u64 (t.lo : Int)] 25); replace hbut := hbut.alloc (Obj.cells #[.int .u64 (t.hi : Int), .int .u64 (t.lo : Int)] 25); have Y := Box.new w2 (t.hi : Int) (t.lo : Int); clear x1 x2 x3 x4 x5))
  have x3 := X.c3
  have x4 := X.c4
  have y0 := Y.1
  have y1 := Y.2
  go_wp2
  go_ret
  exact ⟨rfl, r1, (But.of hb0).trans hbut⟩

set_option maxRecDepth 100000 in
set_option maxHeartbeats 2000000 in
theorem back_5 (g gb : Nat) (R : List Nat) (t : It) (w : World) (r : Rd w g gb (t.enc ++ R)) (ht : t.Good w) (hl : t.Laid) (hr : (t.enc ++ R).length ≤ 140737488355328) (hne : ∀ k, Blk t.a k → t.L ≠ [] → k ≠ g) (hk : t.kd % 7 = 5) :
    Calls Try.prog 23 #[.pointer (some ⟨g, 0, none⟩), .agg #[.int .i64 t.kd, .int .u64 (t.v : Int), .int .i64 t.o, .int .u64 (t.hi : Int), .int .u64 (t.lo : Int), .slice t.a t.n t.c]] w fun e w' => e = .returned (.bool true) ∧ Rd w' g gb R ∧ But (· = g) w w' := by
  have hg := r.lt
  have X := IBox.new w t
  replace r := r.alloc (Obj.cells #[.int .i64 t.kd, .int .u64 (t.v : Int), .int .i64 t.o, .int .u64 (t.hi : Int), .int .u64 (t.lo : Int), .slice t.a t.n t.c] 51)
  have R1 := ht.row.alloc (Obj.cells #[.int .i64 t.kd, .int .u64 (t.v : Int), .int .i64 t.o, .int .u64 (t.hi : Int), .int .u64 (t.lo : Int), .slice t.a t.n t.c] 51)
  have hb0 := below1 w (Obj.cells #[.int .i64 t.kd, .int .u64 (t.v : Int), .int .i64 t.o, .int .u64 (t.hi : Int), .int .u64 (t.lo : Int), .slice t.a t.n t.c] 51)
  have HG : Hid (t.v < 18446744073709551616 ∧ t.hi < 18446744073709551616 ∧ t.lo < 18446744073709551616) := ⟨ht.v, ht.hi, ht.lo⟩
  have HR : Hid ((t.enc ++ R).length ≤ 140737488355328) := hr
  have x0 := X.c0
  have x1 := X.c1
  have x2 := X.c2
  have x3 := X.c3
  have x4 := X.c4
  have x5 := X.c5
  have he := enc5 hk
  have heq := eq27
  obtain ⟨ob, hob⟩ : ∃ ob : Nat, t.o = (ob : Int) := ⟨t.o.toNat, by have := hl.o0; omega⟩
  have hol : ob ≤ 4611686018427387904 := by have := hl.o1; omega
  rw [hob, Int.toNat_natCast] at he
  rw [he] at r HR
  have HOB : Hid (t.o = (ob : Int)) := hob
  clear hob
  obtain ⟨f1, f2, f3, f4, f5⟩ := cap_enc ob t.hi t.lo R hol HG.out.2.1 HG.out.2.2
  clear ht hr he
  go_enter Try.func23, Try.ntmps23
  go_upto_region 2 with (first | (go_at_call 48; refine (kind_any t _).mono ?_; rintro e w1 ⟨rfl, hb⟩; rw [hk]; replace hb0 := below_call hb0 hb; replace r := r.later hb; replace R1 := R1.later hb; replace X := X.later hb; clear hb x0 x1 x2 x3 x4 x5))
  have x1 := X.c1
  have x2 := X.c2
  have x3 := X.c3
  have x4 := X.c4
  have x5 := X.c5
  go_upto_region 19 with (first | (go_at_call 50; refine (cap_any g gb (leL ob 8 ++ leL t.lo 8 ++ leL t.hi 8 ++ R) _ r).mono ?_; rintro e w2 ⟨rfl, r1, hbut⟩; rw [f1, f2, f3, f4]; rw [f5] at r1; replace X := (X.but hbut (by omega)).later (below1 w2 (Obj.cells #[.int .i64 (ob : Int), .int .u64 (t.hi : Int), .int .u64 (t.lo : Int)] 27)); replace r1 := r1.alloc (Obj.cells #[.int .i64 (ob : Int), .int .u64 (t.hi : Int), .int .u64 (t.lo : Int)] 27); replace hbut := hbut.alloc (Obj.cells #[.int .i64 (ob : Int), .int .u64 (t.hi : Int), .int .u64 (t.lo : Int)] 27); have Y := CBox.new w2 (ob : Int) (t.hi : Int) (t.lo : Int); clear x1 x2 x3 x4 x5))
  have x2 := X.c2
  rw [HOB.out] at x2
  have x3 := X.c3
  have x4 := X.c4
  have y0 := Y.1
  have y1 := Y.2.1
  have y2 := Y.2.2
  go_wp2
  go_ret
  exact ⟨rfl, r1, (But.of hb0).trans hbut⟩

set_option maxRecDepth 100000 in
set_option maxHeartbeats 2000000 in
theorem back_6 (g gb : Nat) (R : List Nat) (t : It) (w : World) (r : Rd w g gb (t.enc ++ R)) (ht : t.Good w) (hl : t.Laid) (hr : (t.enc ++ R).length ≤ 140737488355328) (hne : ∀ k, Blk t.a k → t.L ≠ [] → k ≠ g) (hk : t.kd % 7 = 6) :
    Calls Try.prog 23 #[.pointer (some ⟨g, 0, none⟩), .agg #[.int .i64 t.kd, .int .u64 (t.v : Int), .int .i64 t.o, .int .u64 (t.hi : Int), .int .u64 (t.lo : Int), .slice t.a t.n t.c]] w fun e w' => e = .returned (.bool true) ∧ Rd w' g gb R ∧ But (· = g) w w' := by
  have hg := r.lt
  have X := IBox.new w t
  replace r := r.alloc (Obj.cells #[.int .i64 t.kd, .int .u64 (t.v : Int), .int .i64 t.o, .int .u64 (t.hi : Int), .int .u64 (t.lo : Int), .slice t.a t.n t.c] 51)
  have R1 := ht.row.alloc (Obj.cells #[.int .i64 t.kd, .int .u64 (t.v : Int), .int .i64 t.o, .int .u64 (t.hi : Int), .int .u64 (t.lo : Int), .slice t.a t.n t.c] 51)
  have hb0 := below1 w (Obj.cells #[.int .i64 t.kd, .int .u64 (t.v : Int), .int .i64 t.o, .int .u64 (t.hi : Int), .int .u64 (t.lo : Int), .slice t.a t.n t.c] 51)
  have HG : Hid (t.v < 18446744073709551616 ∧ t.hi < 18446744073709551616 ∧ t.lo < 18446744073709551616) := ⟨ht.v, ht.hi, ht.lo⟩
  have HR : Hid ((t.enc ++ R).length ≤ 140737488355328) := hr
  have x0 := X.c0
  have x1 := X.c1
  have x2 := X.c2
  have x3 := X.c3
  have x4 := X.c4
  have x5 := X.c5
  have he := enc6 hk
  rw [he] at r HR
  obtain ⟨f1, f2, f3⟩ := row_enc t.L R t.n ht.row.len
  clear ht hr he
  go_enter Try.func23, Try.ntmps23
  go_upto_region 2 with (first | (go_at_call 48; refine (kind_any t _).mono ?_; rintro e w1 ⟨rfl, hb⟩; rw [hk]; replace hb0 := below_call hb0 hb; replace r := r.later hb; replace R1 := R1.later hb; replace X := X.later hb; clear hb x0 x1 x2 x3 x4 x5))
  have x1 := X.c1
  have x2 := X.c2
  have x3 := X.c3
  have x4 := X.c4
  have x5 := X.c5
  go_upto_region 21 with (first | (go_at_call 11; refine (row_any g gb (t.L ++ R) (t.n : Int) _ r HR.out).mono ?_; rintro e w2 ⟨a2, m2, c2, rfl, P, r1, hbut⟩; rw [f1]; rw [f2] at P; rw [f3] at r1; replace X := X.but hbut (by omega); clear x1 x2 x3 x4 x5))
  have x5 := X.c5
  have R2 := R1.but hbut hne
  go_wp2_with (first | (go_at_call 18; refine (same_eq _ _ _ _ _ _ _ _ P.read R2).mono ?_; rintro e ws ⟨rfl, rfl⟩))
  go_ret
  exact ⟨rfl, r1, (But.of hb0).trans hbut⟩

theorem back_any (g gb : Nat) (R : List Nat) (t : It) (w : World) (r : Rd w g gb (t.enc ++ R)) (ht : t.Good w) (hl : t.Laid) (hr : (t.enc ++ R).length ≤ 140737488355328) (hne : ∀ k, Blk t.a k → t.L ≠ [] → k ≠ g) :
    Calls Try.prog 23 #[.pointer (some ⟨g, 0, none⟩), .agg #[.int .i64 t.kd, .int .u64 (t.v : Int), .int .i64 t.o, .int .u64 (t.hi : Int), .int .u64 (t.lo : Int), .slice t.a t.n t.c]] w fun e w' => e = .returned (.bool true) ∧ Rd w' g gb R ∧ But (· = g) w w' := by
  have : t.kd % 7 = 0 ∨ t.kd % 7 = 1 ∨ t.kd % 7 = 2 ∨ t.kd % 7 = 3 ∨ t.kd % 7 = 4 ∨ t.kd % 7 = 5 ∨ t.kd % 7 = 6 := by omega
  rcases this with hk | hk | hk | hk | hk | hk | hk
  · exact back_0 g gb R t w r ht hl hr hne hk
  · exact back_1 g gb R t w r ht hl hr hne hk
  · exact back_2 g gb R t w r ht hl hr hne hk
  · exact back_3 g gb R t w r ht hl hr hne hk
  · exact back_4 g gb R t w r ht hl hr hne hk
  · exact back_5 g gb R t w r ht hl hr hne hk
  · exact back_6 g gb R t w r ht hl hr hne hk
end Go.Proofs.Ytjncgpekmilpeaa
