import Derived.Test.YtaffgoacbiedlaaA3
namespace Go.Proofs.Ytaffgoacbiedlaa
open Go.RowKit
set_option linter.unusedVariables false
set_option linter.unusedSimpArgs false

/-- A call that gave up. -/
def Gave (e : Ending) : Prop := ∃ x, e = .panicked [{ v := .iface 22 x, recovered := false }]
theorem must_int (v : Int) (w : World) : Calls Try.prog 50 #[.int .i64 v, .int .i64 0] w fun e w' => e = .returned (.int .i64 v) ∧ w' = w := by
  go_enter Try.func50, Try.ntmps50
  go_wp2
  go_ret
  exact ⟨rfl, rfl⟩
theorem must_int_bad (v c : Int) (hc : c ≠ 0) (w : World) : Calls Try.prog 50 #[.int .i64 v, .int .i64 c] w fun e w' => Gave e ∧ w' = w := by
  have h1 : (c != 0) = true := by simpa using hc
  go_enter Try.func50, Try.ntmps50
  go_wp2
  exact ⟨rfl, ⟨_, rfl⟩, rfl⟩
theorem must_u64 (v : Int) (w : World) : Calls Try.prog 100 #[.int .u64 v, .int .i64 0] w fun e w' => e = .returned (.int .u64 v) ∧ w' = w := by
  go_enter Try.func100, Try.ntmps100
  go_wp2
  go_ret
  exact ⟨rfl, rfl⟩
theorem must_u64_bad (v c : Int) (hc : c ≠ 0) (w : World) : Calls Try.prog 100 #[.int .u64 v, .int .i64 c] w fun e w' => Gave e ∧ w' = w := by
  have h1 : (c != 0) = true := by simpa using hc
  go_enter Try.func100, Try.ntmps100
  go_wp2
  exact ⟨rfl, ⟨_, rfl⟩, rfl⟩
theorem must_row (a : Option Addr) (n c : Nat) (w : World) : Calls Try.prog 74 #[.slice a n c, .int .i64 0] w fun e w' => e = .returned (.slice a n c) ∧ w' = w := by
  go_enter Try.func74, Try.ntmps74
  go_wp2
  go_ret
  exact ⟨rfl, rfl⟩
theorem must_word (hi lo : Int) (w : World) : Calls Try.prog 88 #[.agg #[.int .u64 hi, .int .u64 lo], .int .i64 0] w fun e w' => e = .returned (.agg #[.int .u64 hi, .int .u64 lo]) ∧ Below w.heap.size w w' := by
  go_enter Try.func88, Try.ntmps88
  go_wp2
  exact bodyPost_ret (by simp [results, Try.results88, go_sem, asAddr]) rfl ⟨rfl, below2 _ _ _⟩
theorem must_word_bad (hi lo c : Int) (hc : c ≠ 0) (w : World) : Calls Try.prog 88 #[.agg #[.int .u64 hi, .int .u64 lo], .int .i64 c] w fun e w' => Gave e ∧ Below w.heap.size w w' := by
  have h1 : (c != 0) = true := by simpa using hc
  go_enter Try.func88, Try.ntmps88
  go_wp2
  exact ⟨rfl, ⟨_, rfl⟩, below2 _ _ _⟩
theorem must_cap (o hi lo : Int) (w : World) : Calls Try.prog 52 #[.agg #[.int .i64 o, .int .u64 hi, .int .u64 lo], .int .i64 0] w fun e w' => e = .returned (.agg #[.int .i64 o, .int .u64 hi, .int .u64 lo]) ∧ Below w.heap.size w w' := by
  go_enter Try.func52, Try.ntmps52
  go_wp2
  exact bodyPost_ret (by simp [results, Try.results52, go_sem, asAddr]) rfl ⟨rfl, below2 _ _ _⟩
theorem must_cap_bad (o hi lo c : Int) (hc : c ≠ 0) (w : World) : Calls Try.prog 52 #[.agg #[.int .i64 o, .int .u64 hi, .int .u64 lo], .int .i64 c] w fun e w' => Gave e ∧ Below w.heap.size w w' := by
  have h1 : (c != 0) = true := by simpa using hc
  go_enter Try.func52, Try.ntmps52
  go_wp2
  exact ⟨rfl, ⟨_, rfl⟩, below2 _ _ _⟩

theorem okW_of {k : Nat} (h : k = 1 ∨ k = 2 ∨ k = 4 ∨ k = 8) : okW (k : Int) := by unfold okW; omega
theorem look_rd {k m : Nat} {R : List Nat} {v : Nat} {R' : List Nat} (hk : k = 1 ∨ k = 2 ∨ k = 4 ∨ k = 8) (h : rdN k m R = some (v, R')) : lookE R k = 0 ∧ lookV R k = v ∧ R.drop k = R' ∧ v ≤ m := by
  unfold rdN at h
  split at h
  · cases h
  rename_i hl
  split at h
  · cases h
  · simp only [Option.some.injEq, Prod.mk.injEq] at h
    obtain ⟨rfl, rfl⟩ := h
    have hw := okW_of hk
    unfold lookE lookV
    rw [if_pos hw, if_pos hw, Int.toNat_natCast, (get_full hl).1, (get_full hl).2]
    exact ⟨rfl, rfl, rfl, by omega⟩
theorem int_rd {k m : Nat} {R : List Nat} {v : Nat} {R' : List Nat} (hk : k = 1 ∨ k = 2 ∨ k = 4 ∨ k = 8) (h : rdN k m R = some (v, R')) : intE R k m = 0 ∧ intV R k m = v ∧ R.drop (intN R k m) = R' := by
  obtain ⟨h1, h2, h3, h4⟩ := look_rd hk h
  have e : intE R k m = 0 := by
    unfold intE
    rw [if_neg (by omega), if_neg (by omega), h2, if_neg (by omega)]
  unfold intV intN
  rw [if_pos e, if_pos e, Int.toNat_natCast]
  exact ⟨e, h2, h3⟩
theorem int_rd_bad {k m : Nat} {R : List Nat} (hk : k = 1 ∨ k = 2 ∨ k = 4 ∨ k = 8) (h : rdN k m R = none) : intE R k m ≠ 0 := by
  have hw := okW_of hk
  unfold rdN at h
  split at h
  · rename_i hl
    have : lookE R k = 17 := by unfold lookE; rw [if_pos hw, Int.toNat_natCast, (get_short hl).2]
    unfold intE
    rw [if_neg (by omega), if_pos (by omega), this]
    omega
  · rename_i hl
    split at h
    · rename_i hm
      have e1 : lookE R k = 0 := by unfold lookE; rw [if_pos hw, Int.toNat_natCast, (get_full hl).2]
      have e2 : lookV R k = valL (R.take k) := by unfold lookV; rw [if_pos hw, Int.toNat_natCast, (get_full hl).1]
      unfold intE
      rw [if_neg (by omega), if_neg (by omega), e2, if_pos (by omega)]
      omega
    · cases h
theorem int_ok (g gb : Nat) (R : List Nat) (k m : Nat) (w : World) (h : Rd w g gb R) (hk : k = 1 ∨ k = 2 ∨ k = 4 ∨ k = 8) (hm : m < 9223372036854775808) {v : Nat} {R' : List Nat} (hr : rdN k m R = some (v, R')) :
    Calls Try.prog 51 #[.pointer (some ⟨g, 0, none⟩), .int .i64 (k : Int), .int .i64 (m : Int)] w fun e w' => e = .returned (.tuple #[.int .i64 (v : Int), .int .i64 0]) ∧ Rd w' g gb R' ∧ But (· = g) w w' := by
  refine (int_any g gb R k m w h (by omega)).mono ?_
  obtain ⟨h1, h2, h3⟩ := int_rd hk hr
  rw [h1, h2, h3]
  exact fun _ _ h => h
theorem int_bad (g gb : Nat) (R : List Nat) (k m : Nat) (w : World) (h : Rd w g gb R) (hk : k = 1 ∨ k = 2 ∨ k = 4 ∨ k = 8) (hm : m < 9223372036854775808) (hr : rdN k m R = none) :
    Calls Try.prog 51 #[.pointer (some ⟨g, 0, none⟩), .int .i64 (k : Int), .int .i64 (m : Int)] w fun e w' => ∃ v c : Int, e = .returned (.tuple #[.int .i64 v, .int .i64 c]) ∧ c ≠ 0 ∧ But (· = g) w w' := by
  refine (int_any g gb R k m w h (by omega)).mono ?_
  rintro e w' ⟨rfl, _, hb⟩
  exact ⟨_, _, rfl, int_rd_bad hk hr, hb⟩
theorem number_ok (g gb : Nat) (R : List Nat) (w : World) (h : Rd w g gb R) {v : Nat} {R' : List Nat} (hr : rdN 4 4294967295 R = some (v, R')) :
    Calls Try.prog 101 #[.pointer (some ⟨g, 0, none⟩), .int .i64 4] w fun e w' => e = .returned (.tuple #[.int .u64 (v : Int), .int .i64 0]) ∧ Rd w' g gb R' ∧ But (· = g) w w' := by
  refine (number_any g gb R 4 w h).mono ?_
  obtain ⟨h1, h2, h3, _⟩ := look_rd (k := 4) (by omega) hr
  have h4 : numN R 4 = 4 := by unfold numN; exact if_pos (show lookE R 4 = 0 from h1)
  rw [show lookV R 4 = v from h2, show lookE R 4 = 0 from h1, h4, h3]
  exact fun _ _ h => h
theorem number_bad (g gb : Nat) (R : List Nat) (w : World) (h : Rd w g gb R) (hr : rdN 4 4294967295 R = none) :
    Calls Try.prog 101 #[.pointer (some ⟨g, 0, none⟩), .int .i64 4] w fun e w' => ∃ v c : Int, e = .returned (.tuple #[.int .u64 v, .int .i64 c]) ∧ c ≠ 0 ∧ But (· = g) w w' := by
  refine (number_any g gb R 4 w h).mono ?_
  rintro e w' ⟨rfl, _, hb⟩
  refine ⟨_, _, rfl, ?_, hb⟩
  unfold rdN at hr
  split at hr
  · rename_i hl
    have : lookE R 4 = 17 := by unfold lookE; rw [if_pos (by decide)]; exact (get_short hl).2
    rw [this]; omega
  · rename_i hl
    split at hr
    · rename_i hm
      have := valL_take_lt R 4 (by omega) h.small
      omega
    · cases hr
theorem i32_of (v : Nat) (h : v < 4294967296) : IntKind.i32.wrap (v : Int) = sI v := by
  rw [IntKind.wrap_i32]
  unfold sI
  split <;> omega
set_option maxRecDepth 100000 in
set_option maxHeartbeats 1000000 in
theorem readSigned_ok (g gb : Nat) (R : List Nat) (w : World) (h : Rd w g gb R) {v : Nat} {R' : List Nat} (hr : rdN 4 4294967295 R = some (v, R')) :
    Calls Try.prog 87 #[.pointer (some ⟨g, 0, none⟩)] w fun e w' => e = .returned (.int .i64 (sI v)) ∧ Rd w' g gb R' ∧ But (· = g) w w' := by
  have hv : v < 4294967296 := by have := (look_rd (k := 4) (by omega) hr).2.2.2; omega
  have e1 := i32_of v hv
  have e2 : IntKind.i64.wrap (sI v) = sI v := by have := wi_iff.1 (sgB_sI hv); rw [IntKind.wrap_i64]; omega
  have H := (number_ok g gb R w h hr)
  clear h hr hv
  generalize sI v = s at e1 e2
  go_enter Try.func87, Try.ntmps87
  go_wp2_with (first | (go_at_call 101; refine H.mono ?_; rintro e w1 ⟨rfl, hrd, hbut⟩) | (go_at_call 100; refine (must_u64 _ _).mono ?_; rintro e w2 ⟨rfl, rfl⟩))
  go_ret
  exact ⟨ret_int rfl, hrd, hbut⟩
set_option maxRecDepth 100000 in
set_option maxHeartbeats 1000000 in
theorem readSigned_bad (g gb : Nat) (R : List Nat) (w : World) (h : Rd w g gb R) (hr : rdN 4 4294967295 R = none) :
    Calls Try.prog 87 #[.pointer (some ⟨g, 0, none⟩)] w fun e w' => Gave e ∧ But (· = g) w w' := by
  have H := (number_bad g gb R w h hr)
  clear h hr
  go_enter Try.func87, Try.ntmps87
  go_wp2_with (first | (go_at_call 101; refine H.mono ?_; rintro e w1 ⟨v, c, rfl, hc, hbut⟩) | (go_at_call 100; refine (must_u64_bad _ _ hc _).mono ?_; rintro e w2 ⟨⟨x, rfl⟩, rfl⟩))
  exact ⟨rfl, ⟨_, rfl⟩, hbut⟩
end Go.Proofs.Ytaffgoacbiedlaa
