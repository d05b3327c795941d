import Derived.Test.YtejkbeeffllpfaaK2
namespace Go.Proofs.Ytejkbeeffllpfaa
open Go.RowKit
set_option linter.unusedVariables false

/-- Which object bears a number. -/
def at? (Os : List Ob) (id : Int) : Option Ob := Os.find? fun o => decide (o.id = id)
theorem at_mem {Os : List Ob} {id : Int} {o : Ob} (h : at? Os id = some o) : o ∈ Os ∧ o.id = id := ⟨List.mem_of_find?_eq_some h, by simpa using List.find?_some h⟩
theorem at_none {Os : List Ob} {id : Int} (h : at? Os id = none) : ∀ o ∈ Os, o.id ≠ id := by
  intro o ho e
  have := List.find?_eq_none.1 h o ho
  simp [e] at this
theorem look_run {w : World} {s g pb m n room : Nat} {nx : Int} {t : Nat → Bool} {B : Nat → Nat → Nat} {Os : List Ob} (h : Sto w s g pb m n room nx t B Os) {id : Int} (hi : -9223372036854775808 ≤ id ∧ id < 9223372036854775808) :
    (Instr.lookup 62 (.map (some m)) (.int .i64 id) true).run Try.prog w = .ok (match at? Os id with
      | some o => .tuple #[.agg #[.int .i64 (o.data.length : Int), .slice o.adr o.pages.length o.pages.length], .bool true]
      | none => .tuple #[.agg #[.int .i64 0, .slice none 0 0], .bool false]) w := by
  obtain ⟨v, ps, hrun, hv⟩ := h.map.look_ok law3 Try.underlying62 (zero_of info69 w) (zd := .held (.agg #[.int .i64 0, .slice none 0 0])) (zp := []) rfl (key3 hi)
  rw [hrun, has_mapD]
  rw [atKey_mapD] at hv
  simp only [hr, Option.some.injEq, Prod.mk.injEq] at hv
  have e : Os.any (fun o => decide (o.id = id)) = (at? Os id).isSome := by
    unfold at?
    rw [Bool.eq_iff_iff, List.any_eq_true, List.find?_isSome]
  rw [e]
  have hv1 := hv.1
  unfold at? at hv1 ⊢
  cases hf : Os.find? (fun o => decide (o.id = id)) with
  | none =>
    rw [hf] at hv1
    simp only [DataW.held.injEq] at hv1
    simp [hv1]
  | some o =>
    rw [hf] at hv1
    simp only [DataW.held.injEq] at hv1
    simp [hv1, Ob.val]
theorem look_some {w : World} {s g pb m n room : Nat} {nx : Int} {t : Nat → Bool} {B : Nat → Nat → Nat} {Os : List Ob} (h : Sto w s g pb m n room nx t B Os) {id : Int} (hi : -9223372036854775808 ≤ id ∧ id < 9223372036854775808) {o : Ob} (ho : at? Os id = some o) :
    (Instr.lookup 62 (.map (some m)) (.int .i64 id) true).run Try.prog w = .ok (.tuple #[.agg #[.int .i64 (o.data.length : Int), .slice o.adr o.pages.length o.pages.length], .bool true]) w := by
  rw [look_run h hi, ho]
theorem look_none {w : World} {s g pb m n room : Nat} {nx : Int} {t : Nat → Bool} {B : Nat → Nat → Nat} {Os : List Ob} (h : Sto w s g pb m n room nx t B Os) {id : Int} (hi : -9223372036854775808 ≤ id ∧ id < 9223372036854775808) (ho : at? Os id = none) :
    (Instr.lookup 62 (.map (some m)) (.int .i64 id) true).run Try.prog w = .ok (.tuple #[.agg #[.int .i64 0, .slice none 0 0], .bool false]) w := by
  rw [look_run h hi, ho]
set_option maxRecDepth 100000 in
set_option maxHeartbeats 1000000 in
theorem size_some (s g pb m n room : Nat) (nx : Int) (t : Nat → Bool) (B : Nat → Nat → Nat) (Os : List Ob) (id : Int) (o : Ob) (w : World) (h : Sto w s g pb m n room nx t B Os) (hi : -9223372036854775808 ≤ id ∧ id < 9223372036854775808) (ho : at? Os id = some o) :
    Calls Try.prog 45 #[.pointer (some ⟨s, 0, none⟩), .int .i64 id] w fun e w' => e = .returned (.tuple #[.int .i64 (o.data.length : Int), .bool true]) ∧ Below w.heap.size w w' := by
  have x := h.c1.1
  have hl := look_some h hi ho
  have hz := zero_of info69
  clear h
  go_enter Try.func45, Try.ntmps45
  go_wp2
  exact bodyPost_ret (v := .tuple #[.int .i64 (o.data.length : Int), .bool true]) (by simp [results, Try.results45, go_sem]) rfl ⟨rfl, below1 _ _⟩
set_option maxRecDepth 100000 in
set_option maxHeartbeats 1000000 in
theorem size_none (s g pb m n room : Nat) (nx : Int) (t : Nat → Bool) (B : Nat → Nat → Nat) (Os : List Ob) (id : Int) (w : World) (h : Sto w s g pb m n room nx t B Os) (hi : -9223372036854775808 ≤ id ∧ id < 9223372036854775808) (ho : at? Os id = none) :
    Calls Try.prog 45 #[.pointer (some ⟨s, 0, none⟩), .int .i64 id] w fun e w' => e = .returned (.tuple #[.int .i64 0, .bool false]) ∧ Below w.heap.size w w' := by
  have x := h.c1.1
  have hl := look_none h hi ho
  have hz := zero_of info69
  clear h
  go_enter Try.func45, Try.ntmps45
  go_wp2
  exact bodyPost_ret (v := .tuple #[.int .i64 0, .bool false]) (by simp [results, Try.results45, go_sem]) rfl ⟨rfl, below1 _ _⟩
set_option maxRecDepth 100000 in
set_option maxHeartbeats 1000000 in
theorem slook_none (s g pb m n room : Nat) (nx : Int) (t : Nat → Bool) (B : Nat → Nat → Nat) (Os : List Ob) (id off k : Int) (w : World) (h : Sto w s g pb m n room nx t B Os) (hi : -9223372036854775808 ≤ id ∧ id < 9223372036854775808) (ho : at? Os id = none) :
    Calls Try.prog 28 #[.pointer (some ⟨s, 0, none⟩), .int .i64 id, .int .i64 off, .int .i64 k] w fun e w' => e = .returned (.tuple #[.agg #[.int .i64 0, .slice none 0 0], .int .i64 20]) ∧ Below w.heap.size w w' := by
  have x := h.c1.1
  have x1 := cell_later (below1 w (.cells #[.int .i64 0, .slice none 0 0] 69)) x
  have hl := look_none (h.later (below1 w (.cells #[.int .i64 0, .slice none 0 0] 69))) hi ho
  have hz := zero_of info69
  clear h
  go_enter Try.func28, Try.ntmps28
  go_wp2
  refine bodyPost_ret (v := .tuple #[.agg #[.int .i64 0, .slice none 0 0], .int .i64 20]) ?_ rfl ⟨rfl, below2 _ _ _⟩
  simp [results, Try.results28, go_sem]
def rdOk (o : Ob) (off k : Int) : Prop := 0 ≤ off ∧ 0 ≤ k ∧ k ≤ 1024 ∧ off + k ≤ (o.data.length : Int)
set_option maxRecDepth 100000 in
set_option maxHeartbeats 2000000 in
theorem slook_bad (s g pb m n room : Nat) (nx : Int) (t : Nat → Bool) (B : Nat → Nat → Nat) (Os : List Ob) (id off k : Int) (o : Ob) (w : World) (h : Sto w s g pb m n room nx t B Os) (hi : -9223372036854775808 ≤ id ∧ id < 9223372036854775808) (ho : at? Os id = some o) (hb : ¬ rdOk o off k) :
    Calls Try.prog 28 #[.pointer (some ⟨s, 0, none⟩), .int .i64 id, .int .i64 off, .int .i64 k] w fun e w' => e = .returned (.tuple #[.agg #[.int .i64 0, .slice none 0 0], .int .i64 5]) ∧ Below w.heap.size w w' := by
  have x := h.c1.1
  have x1 := cell_later (below1 w (.cells #[.int .i64 0, .slice none 0 0] 69)) x
  have hl := look_some (h.later (below1 w (.cells #[.int .i64 0, .slice none 0 0] 69))) hi ho
  have hz := zero_of info69
  have hbig := h.big o (at_mem ho).1
  obtain ⟨sz, hsz⟩ : ∃ sz, sz = o.data.length := ⟨_, rfl⟩
  rw [← hsz] at hl hbig
  unfold rdOk at hb
  rw [← hsz] at hb
  have HB := hid hb
  clear h hsz hb
  by_cases h1 : off < 0
  · have hd1 : decide (off < 0) = true := decide_eq_true h1
    go_enter Try.func28, Try.ntmps28
    go_wp2
    refine bodyPost_ret (v := .tuple #[.agg #[.int .i64 0, .slice none 0 0], .int .i64 5]) ?_ rfl ⟨rfl, below2 _ _ _⟩
    simp [results, Try.results28, go_sem]
  have hd1 : decide (off < 0) = false := decide_eq_false h1
  by_cases h2 : k < 0
  · have hd2 : decide (k < 0) = true := decide_eq_true h2
    go_enter Try.func28, Try.ntmps28
    go_wp2
    refine bodyPost_ret (v := .tuple #[.agg #[.int .i64 0, .slice none 0 0], .int .i64 5]) ?_ rfl ⟨rfl, below2 _ _ _⟩
    simp [results, Try.results28, go_sem]
  have hd2 : decide (k < 0) = false := decide_eq_false h2
  by_cases h3 : k > 1024
  · have hd3 : decide (k > 1024) = true := decide_eq_true h3
    go_enter Try.func28, Try.ntmps28
    go_wp2
    refine bodyPost_ret (v := .tuple #[.agg #[.int .i64 0, .slice none 0 0], .int .i64 5]) ?_ rfl ⟨rfl, below2 _ _ _⟩
    simp [results, Try.results28, go_sem]
  have hd3 : decide (k > 1024) = false := decide_eq_false h3
  have hd4 : decide (off > (sz : Int) - k) = true := decide_eq_true (by have := HB.out; omega)
  go_enter Try.func28, Try.ntmps28
  go_wp2
  refine bodyPost_ret (v := .tuple #[.agg #[.int .i64 0, .slice none 0 0], .int .i64 5]) ?_ rfl ⟨rfl, below2 _ _ _⟩
  simp [results, Try.results28, go_sem]
set_option maxRecDepth 100000 in
set_option maxHeartbeats 2000000 in
theorem slook_ok (s g pb m n room : Nat) (nx : Int) (t : Nat → Bool) (B : Nat → Nat → Nat) (Os : List Ob) (id off k : Int) (o : Ob) (w : World) (h : Sto w s g pb m n room nx t B Os) (hi : -9223372036854775808 ≤ id ∧ id < 9223372036854775808) (ho : at? Os id = some o) (hb : rdOk o off k) :
    Calls Try.prog 28 #[.pointer (some ⟨s, 0, none⟩), .int .i64 id, .int .i64 off, .int .i64 k] w fun e w' => e = .returned (.tuple #[.agg #[.int .i64 (o.data.length : Int), .slice o.adr o.pages.length o.pages.length], .int .i64 0]) ∧ Below w.heap.size w w' := by
  have x := h.c1.1
  have x1 := cell_later (below1 w (.cells #[.int .i64 0, .slice none 0 0] 69)) x
  have hl := look_some (h.later (below1 w (.cells #[.int .i64 0, .slice none 0 0] 69))) hi ho
  have hz := zero_of info69
  have hbig := h.big o (at_mem ho).1
  obtain ⟨sz, hsz⟩ : ∃ sz, sz = o.data.length := ⟨_, rfl⟩
  rw [← hsz] at hl hbig ⊢
  unfold rdOk at hb
  rw [← hsz] at hb
  clear h hsz
  have hd1 : decide (off < 0) = false := decide_eq_false (by omega)
  have hd2 : decide (k < 0) = false := decide_eq_false (by omega)
  have hd3 : decide (k > 1024) = false := decide_eq_false (by omega)
  have hd4 : decide (off > (sz : Int) - k) = false := decide_eq_false (by omega)
  obtain ⟨hb1, hb2, hb3, hb4⟩ := hb
  go_enter Try.func28, Try.ntmps28
  go_wp2
  refine bodyPost_ret (v := .tuple #[.agg #[.int .i64 (sz : Int), .slice o.adr o.pages.length o.pages.length], .int .i64 0]) ?_ rfl ⟨rfl, ?_⟩
  · simp [results, Try.results28, go_sem]
  · exact below2 _ _ _
end Go.Proofs.Ytejkbeeffllpfaa
