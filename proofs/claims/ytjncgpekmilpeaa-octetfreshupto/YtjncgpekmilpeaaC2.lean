import Derived.Test.YtjncgpekmilpeaaC1
namespace Go.Proofs.Ytjncgpekmilpeaa
open Go.RowKit
set_option linter.unusedVariables false

set_option maxRecDepth 100000 in
set_option maxHeartbeats 1000000 in
theorem width8 (w : World) : Calls Try.prog 42 #[] w fun e w' => e = .returned (.int .i64 1) ∧ w' = w := by
  go_enter Try.func42, Try.ntmps42
  go_wp2
  go_loop [1, 2] (fun n r => ∃ k : Nat, k ≤ 1 ∧ n = .int .i64 k ∧ r = .int .u64 ((255 / 256 ^ k : Nat) : Int)) (fun n _ => 1 - (intOf n).toNat)
  case atStart => exact ⟨0, by omega, rfl, rfl⟩
  case round =>
    obtain ⟨k, hk, rfl, rfl⟩ := hrel
    rcases (by omega : k = 0 ∨ k = 1) with rfl | rfl
    · go_wp2
      exact ⟨⟨1, by omega, by go_num, by go_num⟩, by simp [intOf]⟩
    · go_wp2
      go_ret
      exact ⟨rfl, rfl⟩

set_option maxRecDepth 100000 in
set_option maxHeartbeats 1000000 in
theorem width32 (w : World) : Calls Try.prog 46 #[] w fun e w' => e = .returned (.int .i64 4) ∧ w' = w := by
  go_enter Try.func46, Try.ntmps46
  go_wp2
  go_loop [1, 2] (fun n r => ∃ k : Nat, k ≤ 4 ∧ n = .int .i64 k ∧ r = .int .u64 ((4294967295 / 256 ^ k : Nat) : Int)) (fun n _ => 4 - (intOf n).toNat)
  case atStart => exact ⟨0, by omega, rfl, rfl⟩
  case round =>
    obtain ⟨k, hk, rfl, rfl⟩ := hrel
    rcases (by omega : k = 0 ∨ k = 1 ∨ k = 2 ∨ k = 3 ∨ k = 4) with rfl | rfl | rfl | rfl | rfl
    · go_wp2
      exact ⟨⟨1, by omega, by go_num, by go_num⟩, by simp [intOf]⟩
    · go_wp2
      exact ⟨⟨2, by omega, by go_num, by go_num⟩, by simp [intOf]⟩
    · go_wp2
      exact ⟨⟨3, by omega, by go_num, by go_num⟩, by simp [intOf]⟩
    · go_wp2
      exact ⟨⟨4, by omega, by go_num, by go_num⟩, by simp [intOf]⟩
    · go_wp2
      go_ret
      exact ⟨rfl, rfl⟩

set_option maxRecDepth 100000 in
set_option maxHeartbeats 1000000 in
theorem width64 (w : World) : Calls Try.prog 47 #[] w fun e w' => e = .returned (.int .i64 8) ∧ w' = w := by
  go_enter Try.func47, Try.ntmps47
  go_wp2
  go_loop [1, 2] (fun n r => ∃ k : Nat, k ≤ 8 ∧ n = .int .i64 k ∧ r = .int .u64 ((18446744073709551615 / 256 ^ k : Nat) : Int)) (fun n _ => 8 - (intOf n).toNat)
  case atStart => exact ⟨0, by omega, rfl, rfl⟩
  case round =>
    obtain ⟨k, hk, rfl, rfl⟩ := hrel
    rcases (by omega : k = 0 ∨ k = 1 ∨ k = 2 ∨ k = 3 ∨ k = 4 ∨ k = 5 ∨ k = 6 ∨ k = 7 ∨ k = 8) with rfl | rfl | rfl | rfl | rfl | rfl | rfl | rfl | rfl
    · go_wp2
      exact ⟨⟨1, by omega, by go_num, by go_num⟩, by simp [intOf]⟩
    · go_wp2
      exact ⟨⟨2, by omega, by go_num, by go_num⟩, by simp [intOf]⟩
    · go_wp2
      exact ⟨⟨3, by omega, by go_num, by go_num⟩, by simp [intOf]⟩
    · go_wp2
      exact ⟨⟨4, by omega, by go_num, by go_num⟩, by simp [intOf]⟩
    · go_wp2
      exact ⟨⟨5, by omega, by go_num, by go_num⟩, by simp [intOf]⟩
    · go_wp2
      exact ⟨⟨6, by omega, by go_num, by go_num⟩, by simp [intOf]⟩
    · go_wp2
      exact ⟨⟨7, by omega, by go_num, by go_num⟩, by simp [intOf]⟩
    · go_wp2
      exact ⟨⟨8, by omega, by go_num, by go_num⟩, by simp [intOf]⟩
    · go_wp2
      go_ret
      exact ⟨rfl, rfl⟩

def LayRel (w : World) (a : Option Addr) (base n : Nat) (L : List Nat) (v k : Nat) (o r t : Value) (w' : World) : Prop :=
  ∃ (i : Nat) (a' : Option Addr) (cap' : Nat), i ≤ k ∧ t = .int .i64 (i : Int) ∧ r = .int .u64 ((v / 256 ^ i : Nat) : Int) ∧ o = .slice a' (n + i) cap' ∧ Own w' base a' (n + i) cap' (L ++ leL v i) ∧ Gr a a' w w'
theorem byte_of (v i : Nat) : IntKind.u8.wrap ((v / 256 ^ i : Nat) : Int) = ((v / 256 ^ i % 256 : Nat) : Int) := by rw [IntKind.wrap_u8]; omega
theorem rest_of (v i : Nat) : (((v / 256 ^ i : Nat) : Int) / 256) = ((v / 256 ^ (i + 1) : Nat) : Int) := by
  rw [Nat.pow_succ, ← Nat.div_div_eq_div_mul]
  omega
theorem append_byte {w : World} {base n cap : Nat} {a : Option Addr} {L : List Nat} {b : Nat} (h : Own w base a n cap L) (hb : base ≤ w.heap.size) (hr : n + 1 ≤ 140737488355328) (hb8 : b < 256) :
    ∃ a' cap' w', (Builtin.append_ #[22, 22] 22 #[.slice a n cap, .slice (some ⟨w.heap.size, 0, none⟩) 1 1]).run Try.prog (w.alloc (Obj.cells #[Value.int .u8 (b : Int)] 5)) = .ok (.slice a' (n + 1) cap') w' ∧ Own w' base a' (n + 1) cap' (L ++ [b]) ∧ Gr a a' w w' := by
  obtain ⟨a', cap', w', h1, h2, h4⟩ := append_any (h.alloc (Obj.cells #[Value.int .u8 (b : Int)] 5)) (Row.one w b hb8) (by simp; omega) hr
  exact ⟨a', cap', w', h1, h2, h4.pre (below1 _ _)⟩

set_option maxRecDepth 100000 in
set_option maxHeartbeats 1000000 in
theorem lay8 (a : Option Addr) (n cap : Nat) (L : List Nat) (v : Nat) (w : World) (base : Nat) (hv : v < 256) (h : Own w base a n cap L) (hb : base ≤ w.heap.size) (hr : n + 1 ≤ 140737488355328) :
    Calls Try.prog 41 #[.slice a n cap, .int .u8 (v : Int)] w fun e w' => ∃ a' cap', e = .returned (.slice a' (n + 1) cap') ∧ Own w' base a' (n + 1) cap' (L ++ leL v 1) ∧ Gr a a' w w' := by
  have HR : Hid (n + 1 ≤ 140737488355328) := hr
  have HV : Hid (LayRel w a base n L v 1 (.slice a n cap) (.int .u64 (v : Int)) (.int .i64 0) w) := ⟨0, a, cap, by omega, rfl, by simp, rfl, by simpa [leL_zero] using h, Gr.refl _ _⟩
  clear h hr
  go_enter Try.func41, Try.ntmps41
  go_wp2_with (first | (go_at_call 42; refine (width8 _).mono ?_; rintro e w1 ⟨rfl, rfl⟩))
  rename World => w
  go_loopw [0, 5, 9] (LayRel w a base n L v 1) (fun _ _ t _ => 1 - (intOf t).toNat)
  case atStart => exact HV.out
  case round =>
    clear HV
    obtain ⟨i, a', cap', hi, rfl, rfl, rfl, hown, hB⟩ := hrel
    have hbw : base ≤ wr.heap.size := Nat.le_trans hb hB.but.size
    by_cases hlt : i < 1
    · have hd : decide ((i : Int) < 1) = true := by simp; omega
      have e1 := byte_of v i
      have e2 := rest_of v i
      obtain ⟨a2, c2, w2, hrun, hown2, hB2⟩ := append_byte (b := v / 256 ^ i % 256) hown hbw (by have := HR.out; omega) (by omega)
      have HRUN : Hid _ := hrun
      have HO : Hid (Own w2 base a2 (n + (i + 1)) c2 (L ++ leL v (i + 1))) := by rw [leL_succ, ← List.append_assoc]; exact hown2
      have HB : Hid (Gr a a2 w w2) := hB.trans hB2
      clear hrun hown hown2 hB hB2
      go_wp2_with (first | (at_builtin; refine wpList_append_known rfl _ _ 22 rfl _ _ rfl rfl _ w2 HRUN.out ?_))
      go_roundw
      case rel => exact ⟨i + 1, a2, c2, by omega, by go_num, by rw [← e2]; simp, rfl, HO.out, HB.out⟩
      case measure => simp [intOf]; omega
    · obtain rfl : i = 1 := by omega
      go_wp2
      go_ret
      exact ⟨a', cap', rfl, hown, hB⟩

set_option maxRecDepth 100000 in
set_option maxHeartbeats 1000000 in
theorem lay16 (a : Option Addr) (n cap : Nat) (L : List Nat) (v : Nat) (w : World) (base : Nat) (hv : v < 65536) (h : Own w base a n cap L) (hb : base ≤ w.heap.size) (hr : n + 2 ≤ 140737488355328) :
    Calls Try.prog 43 #[.slice a n cap, .int .u16 (v : Int)] w fun e w' => ∃ a' cap', e = .returned (.slice a' (n + 2) cap') ∧ Own w' base a' (n + 2) cap' (L ++ leL v 2) ∧ Gr a a' w w' := by
  have HR : Hid (n + 2 ≤ 140737488355328) := hr
  have HV : Hid (LayRel w a base n L v 2 (.slice a n cap) (.int .u64 (v : Int)) (.int .i64 0) w) := ⟨0, a, cap, by omega, rfl, by simp, rfl, by simpa [leL_zero] using h, Gr.refl _ _⟩
  clear h hr
  go_enter Try.func43, Try.ntmps43
  go_wp2_with (first | (go_at_call 44; refine (width16 _).mono ?_; rintro e w1 ⟨rfl, rfl⟩))
  rename World => w
  go_loopw [0, 5, 9] (LayRel w a base n L v 2) (fun _ _ t _ => 2 - (intOf t).toNat)
  case atStart => exact HV.out
  case round =>
    clear HV
    obtain ⟨i, a', cap', hi, rfl, rfl, rfl, hown, hB⟩ := hrel
    have hbw : base ≤ wr.heap.size := Nat.le_trans hb hB.but.size
    by_cases hlt : i < 2
    · have hd : decide ((i : Int) < 2) = true := by simp; omega
      have e1 := byte_of v i
      have e2 := rest_of v i
      obtain ⟨a2, c2, w2, hrun, hown2, hB2⟩ := append_byte (b := v / 256 ^ i % 256) hown hbw (by have := HR.out; omega) (by omega)
      have HRUN : Hid _ := hrun
      have HO : Hid (Own w2 base a2 (n + (i + 1)) c2 (L ++ leL v (i + 1))) := by rw [leL_succ, ← List.append_assoc]; exact hown2
      have HB : Hid (Gr a a2 w w2) := hB.trans hB2
      clear hrun hown hown2 hB hB2
      go_wp2_with (first | (at_builtin; refine wpList_append_known rfl _ _ 22 rfl _ _ rfl rfl _ w2 HRUN.out ?_))
      go_roundw
      case rel => exact ⟨i + 1, a2, c2, by omega, by go_num, by rw [← e2]; simp, rfl, HO.out, HB.out⟩
      case measure => simp [intOf]; omega
    · obtain rfl : i = 2 := by omega
      go_wp2
      go_ret
      exact ⟨a', cap', rfl, hown, hB⟩

set_option maxRecDepth 100000 in
set_option maxHeartbeats 1000000 in
theorem lay32 (a : Option Addr) (n cap : Nat) (L : List Nat) (v : Nat) (w : World) (base : Nat) (hv : v < 4294967296) (h : Own w base a n cap L) (hb : base ≤ w.heap.size) (hr : n + 4 ≤ 140737488355328) :
    Calls Try.prog 45 #[.slice a n cap, .int .u32 (v : Int)] w fun e w' => ∃ a' cap', e = .returned (.slice a' (n + 4) cap') ∧ Own w' base a' (n + 4) cap' (L ++ leL v 4) ∧ Gr a a' w w' := by
  have HR : Hid (n + 4 ≤ 140737488355328) := hr
  have HV : Hid (LayRel w a base n L v 4 (.slice a n cap) (.int .u64 (v : Int)) (.int .i64 0) w) := ⟨0, a, cap, by omega, rfl, by simp, rfl, by simpa [leL_zero] using h, Gr.refl _ _⟩
  clear h hr
  go_enter Try.func45, Try.ntmps45
  go_wp2_with (first | (go_at_call 46; refine (width32 _).mono ?_; rintro e w1 ⟨rfl, rfl⟩))
  rename World => w
  go_loopw [0, 5, 9] (LayRel w a base n L v 4) (fun _ _ t _ => 4 - (intOf t).toNat)
  case atStart => exact HV.out
  case round =>
    clear HV
    obtain ⟨i, a', cap', hi, rfl, rfl, rfl, hown, hB⟩ := hrel
    have hbw : base ≤ wr.heap.size := Nat.le_trans hb hB.but.size
    by_cases hlt : i < 4
    · have hd : decide ((i : Int) < 4) = true := by simp; omega
      have e1 := byte_of v i
      have e2 := rest_of v i
      obtain ⟨a2, c2, w2, hrun, hown2, hB2⟩ := append_byte (b := v / 256 ^ i % 256) hown hbw (by have := HR.out; omega) (by omega)
      have HRUN : Hid _ := hrun
      have HO : Hid (Own w2 base a2 (n + (i + 1)) c2 (L ++ leL v (i + 1))) := by rw [leL_succ, ← List.append_assoc]; exact hown2
      have HB : Hid (Gr a a2 w w2) := hB.trans hB2
      clear hrun hown hown2 hB hB2
      go_wp2_with (first | (at_builtin; refine wpList_append_known rfl _ _ 22 rfl _ _ rfl rfl _ w2 HRUN.out ?_))
      go_roundw
      case rel => exact ⟨i + 1, a2, c2, by omega, by go_num, by rw [← e2]; simp, rfl, HO.out, HB.out⟩
      case measure => simp [intOf]; omega
    · obtain rfl : i = 4 := by omega
      go_wp2
      go_ret
      exact ⟨a', cap', rfl, hown, hB⟩

set_option maxRecDepth 100000 in
set_option maxHeartbeats 1000000 in
theorem lay64 (a : Option Addr) (n cap : Nat) (L : List Nat) (v : Nat) (w : World) (base : Nat) (hv : v < 18446744073709551616) (h : Own w base a n cap L) (hb : base ≤ w.heap.size) (hr : n + 8 ≤ 140737488355328) :
    Calls Try.prog 38 #[.slice a n cap, .int .u64 (v : Int)] w fun e w' => ∃ a' cap', e = .returned (.slice a' (n + 8) cap') ∧ Own w' base a' (n + 8) cap' (L ++ leL v 8) ∧ Gr a a' w w' := by
  have HR : Hid (n + 8 ≤ 140737488355328) := hr
  have HV : Hid (LayRel w a base n L v 8 (.slice a n cap) (.int .u64 (v : Int)) (.int .i64 0) w) := ⟨0, a, cap, by omega, rfl, by simp, rfl, by simpa [leL_zero] using h, Gr.refl _ _⟩
  clear h hr
  go_enter Try.func38, Try.ntmps38
  go_wp2_with (first | (go_at_call 47; refine (width64 _).mono ?_; rintro e w1 ⟨rfl, rfl⟩))
  rename World => w
  go_loopw [0, 5, 8] (LayRel w a base n L v 8) (fun _ _ t _ => 8 - (intOf t).toNat)
  case atStart => exact HV.out
  case round =>
    clear HV
    obtain ⟨i, a', cap', hi, rfl, rfl, rfl, hown, hB⟩ := hrel
    have hbw : base ≤ wr.heap.size := Nat.le_trans hb hB.but.size
    by_cases hlt : i < 8
    · have hd : decide ((i : Int) < 8) = true := by simp; omega
      have e1 := byte_of v i
      have e2 := rest_of v i
      obtain ⟨a2, c2, w2, hrun, hown2, hB2⟩ := append_byte (b := v / 256 ^ i % 256) hown hbw (by have := HR.out; omega) (by omega)
      have HRUN : Hid _ := hrun
      have HO : Hid (Own w2 base a2 (n + (i + 1)) c2 (L ++ leL v (i + 1))) := by rw [leL_succ, ← List.append_assoc]; exact hown2
      have HB : Hid (Gr a a2 w w2) := hB.trans hB2
      clear hrun hown hown2 hB hB2
      go_wp2_with (first | (at_builtin; refine wpList_append_known rfl _ _ 22 rfl _ _ rfl rfl _ w2 HRUN.out ?_))
      go_roundw
      case rel => exact ⟨i + 1, a2, c2, by omega, by go_num, by rw [← e2]; simp, rfl, HO.out, HB.out⟩
      case measure => simp [intOf]; omega
    · obtain rfl : i = 8 := by omega
      go_wp2
      go_ret
      exact ⟨a', cap', rfl, hown, hB⟩

set_option maxRecDepth 100000 in
set_option maxHeartbeats 1000000 in
theorem put8 (a : Option Addr) (n cap : Nat) (L : List Nat) (v : Nat) (w : World) (hv : v < 256) (h : Row w a n cap L) (hr : n + 1 ≤ 140737488355328) :
    Calls Try.prog 12 #[.slice a n cap, .int .u8 (v : Int)] w fun e w' => ∃ a' cap', e = .returned (.slice a' (n + 1) cap') ∧ Own w' w.heap.size a' (n + 1) cap' (L ++ leL v 1) ∧ Below w.heap.size w w' := by
  have HR : Hid (n + 1 ≤ 140737488355328) := hr
  clear hr
  go_enter Try.func12, Try.ntmps12
  go_wp2_with (first | (go_at_call 42; refine (width8 _).mono ?_; rintro e w1 ⟨rfl, rfl⟩) | (go_at_call 37; refine (room_any a n cap 1 L _ h HR.out).mono ?_; rintro e w2 ⟨g, rfl, hown, hb⟩) | (go_at_call 41; refine (lay8 _ _ _ L v _ _ hv hown hb.size HR.out).mono ?_; rintro e w3 ⟨a3, c3, rfl, hown3, hb3⟩))
  go_ret
  exact ⟨a3, c3, rfl, hown3, hb.trans (hb3.below hown hb.size)⟩

set_option maxRecDepth 100000 in
set_option maxHeartbeats 1000000 in
theorem put16 (a : Option Addr) (n cap : Nat) (L : List Nat) (v : Nat) (w : World) (hv : v < 65536) (h : Row w a n cap L) (hr : n + 2 ≤ 140737488355328) :
    Calls Try.prog 13 #[.slice a n cap, .int .u16 (v : Int)] w fun e w' => ∃ a' cap', e = .returned (.slice a' (n + 2) cap') ∧ Own w' w.heap.size a' (n + 2) cap' (L ++ leL v 2) ∧ Below w.heap.size w w' := by
  have HR : Hid (n + 2 ≤ 140737488355328) := hr
  clear hr
  go_enter Try.func13, Try.ntmps13
  go_wp2_with (first | (go_at_call 44; refine (width16 _).mono ?_; rintro e w1 ⟨rfl, rfl⟩) | (go_at_call 37; refine (room_any a n cap 2 L _ h HR.out).mono ?_; rintro e w2 ⟨g, rfl, hown, hb⟩) | (go_at_call 43; refine (lay16 _ _ _ L v _ _ hv hown hb.size HR.out).mono ?_; rintro e w3 ⟨a3, c3, rfl, hown3, hb3⟩))
  go_ret
  exact ⟨a3, c3, rfl, hown3, hb.trans (hb3.below hown hb.size)⟩

set_option maxRecDepth 100000 in
set_option maxHeartbeats 1000000 in
theorem put32 (a : Option Addr) (n cap : Nat) (L : List Nat) (v : Nat) (w : World) (hv : v < 4294967296) (h : Row w a n cap L) (hr : n + 4 ≤ 140737488355328) :
    Calls Try.prog 14 #[.slice a n cap, .int .u32 (v : Int)] w fun e w' => ∃ a' cap', e = .returned (.slice a' (n + 4) cap') ∧ Own w' w.heap.size a' (n + 4) cap' (L ++ leL v 4) ∧ Below w.heap.size w w' := by
  have HR : Hid (n + 4 ≤ 140737488355328) := hr
  clear hr
  go_enter Try.func14, Try.ntmps14
  go_wp2_with (first | (go_at_call 46; refine (width32 _).mono ?_; rintro e w1 ⟨rfl, rfl⟩) | (go_at_call 37; refine (room_any a n cap 4 L _ h HR.out).mono ?_; rintro e w2 ⟨g, rfl, hown, hb⟩) | (go_at_call 45; refine (lay32 _ _ _ L v _ _ hv hown hb.size HR.out).mono ?_; rintro e w3 ⟨a3, c3, rfl, hown3, hb3⟩))
  go_ret
  exact ⟨a3, c3, rfl, hown3, hb.trans (hb3.below hown hb.size)⟩

set_option maxRecDepth 100000 in
set_option maxHeartbeats 1000000 in
theorem put64 (a : Option Addr) (n cap : Nat) (L : List Nat) (v : Nat) (w : World) (hv : v < 18446744073709551616) (h : Row w a n cap L) (hr : n + 8 ≤ 140737488355328) :
    Calls Try.prog 15 #[.slice a n cap, .int .u64 (v : Int)] w fun e w' => ∃ a' cap', e = .returned (.slice a' (n + 8) cap') ∧ Own w' w.heap.size a' (n + 8) cap' (L ++ leL v 8) ∧ Below w.heap.size w w' := by
  have HR : Hid (n + 8 ≤ 140737488355328) := hr
  clear hr
  go_enter Try.func15, Try.ntmps15
  go_wp2_with (first | (go_at_call 47; refine (width64 _).mono ?_; rintro e w1 ⟨rfl, rfl⟩) | (go_at_call 37; refine (room_any a n cap 8 L _ h HR.out).mono ?_; rintro e w2 ⟨g, rfl, hown, hb⟩) | (go_at_call 38; refine (lay64 _ _ _ L v _ _ hv hown hb.size HR.out).mono ?_; rintro e w3 ⟨a3, c3, rfl, hown3, hb3⟩))
  go_ret
  exact ⟨a3, c3, rfl, hown3, hb.trans (hb3.below hown hb.size)⟩

end Go.Proofs.Ytjncgpekmilpeaa
