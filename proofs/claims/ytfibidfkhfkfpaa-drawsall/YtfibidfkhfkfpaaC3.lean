import Derived.Test.YtfibidfkhfkfpaaC2
namespace Go.Proofs.Ytfibidfkhfkfpaa
open Go.RowKit
set_option linter.unusedVariables false

set_option maxRecDepth 100000 in
set_option maxHeartbeats 1000000 in
theorem behind_more (gb n t : Nat) (w : World) (ht : t < n) (hn : n ≤ 4096) :
    Calls Try.prog 16 #[.slice (some ⟨gb, 0, none⟩) n n, .int .i64 (t : Int)] w fun e w' => e = .returned (.slice (some ⟨gb, t * 2, none⟩) (n - t) (n - t)) ∧ w' = w := by
  have h1 : (t : Int) ≤ (n : Int) := by omega
  have hne : ¬ n = t := by omega
  have hnb : (n == t) = false := by simpa using hne
  have hna : (n - t == 0) = false := by simp; omega
  go_enter Try.func16, Try.ntmps16
  go_wp2
  go_ret
  exact ⟨rfl, rfl⟩
set_option maxRecDepth 100000 in
set_option maxHeartbeats 1000000 in
theorem behind_end1 (gb n : Nat) (w : World) (hn : n ≤ 4096) :
    Calls Try.prog 16 #[.slice (some ⟨gb, 0, none⟩) n n, .int .i64 (n : Int)] w fun e w' => e = .returned (.slice (some ⟨gb, 0, none⟩) 0 0) ∧ w' = w := by
  go_enter Try.func16, Try.ntmps16
  go_wp2
  go_ret
  exact ⟨rfl, rfl⟩
theorem behind_end (gb n : Nat) (hn : n ≤ 4096) : ∃ x0, ∀ w : World, Calls Try.prog 16 #[.slice (some ⟨gb, 0, none⟩) n n, .int .i64 (n : Int)] w fun e w' => e = .returned (.slice x0 0 0) ∧ w' = w := ⟨_, fun w => behind_end1 gb n w hn⟩
set_option maxRecDepth 100000 in
set_option maxHeartbeats 1000000 in
theorem splits_any (x : Option Addr) (n cap : Nat) (k : Int) (w : World) :
    Calls Try.prog 17 #[.slice x n cap, .int .i64 k] w fun e w' => e = .returned (.bool (decide (0 ≤ k ∧ k ≤ n))) ∧ w' = w := by
  by_cases h0 : 0 ≤ k
  · by_cases h1 : k ≤ (n : Int)
    · rw [decide_eq_true (p := 0 ≤ k ∧ k ≤ n) ⟨h0, h1⟩]
      go_enter Try.func17, Try.ntmps17
      go_wp2
      go_ret
      exact ⟨rfl, rfl⟩
    · rw [decide_eq_false (p := 0 ≤ k ∧ k ≤ n) (fun h => h1 h.2)]
      go_enter Try.func17, Try.ntmps17
      go_wp2
      go_ret
      exact ⟨rfl, rfl⟩
  · rw [decide_eq_false (p := 0 ≤ k ∧ k ≤ n) (fun h => h0 h.1)]
    go_enter Try.func17, Try.ntmps17
    go_wp2
    go_ret
    exact ⟨rfl, rfl⟩
set_option maxRecDepth 100000 in
set_option maxHeartbeats 1000000 in
theorem lcut_any (N : Nat) (width : Int) (w : World) (h : N < B64 * B64) (h1 : 1 ≤ width) (h2 : width ≤ 128) :
    Calls Try.prog 11 #[.agg #[.int .u64 (hiI N), .int .u64 (loI N)], .int .i64 width] w fun e w' => e = .returned (.agg #[.int .u64 (hiI (cutN N width)), .int .u64 (loI (cutN N width))]) ∧ Below w.heap.size w w' := by
  obtain ⟨a, b, ea, eb, hw⟩ := (isV h).ex
  by_cases h3 : width < 64
  · have hz := IsV.of (cut_lo hw h1 h3)
    rw [ea, eb, ← hz.hi, ← hz.lo]
    have hl := u64_low b width.toNat hw.hb (by omega)
    rw [← hl]
    have h4 : 0 ≤ width := by omega
    clear hl hz hw ea eb
    go_enter Try.func11, Try.ntmps11
    go_upto_region 2 with fail
    go_region
    go_wp2
    exact bodyPost_ret (v := .agg #[.int .u64 0, .int .u64 (bits BinOp.and IntKind.u64 (↑b) (IntKind.u64.wrap (IntKind.u64.wrap (2 ^ width.toNat) - 1)))]) (by simp [results, Try.results11, go_sem]) rfl ⟨rfl, (below2 _ _ _).drew⟩
  · by_cases h5 : width < 128
    · have hz := IsV.of (cut_hi hw (by omega) h5)
      rw [ea, eb, ← hz.hi, ← hz.lo]
      have hl := u64_low a (width - 64).toNat hw.ha (by omega)
      rw [← hl]
      have h4 : 0 ≤ width - 64 := by omega
      have hwr : IntKind.i64.wrap (width - 64) = width - 64 := by rw [IntKind.wrap_i64]; omega
      clear hl hz hw ea eb
      go_enter Try.func11, Try.ntmps11
      go_upto_region 4 with fail
      go_region
      go_wp2
      exact bodyPost_ret (v := .agg #[.int .u64 (bits BinOp.and IntKind.u64 (↑a) (IntKind.u64.wrap (IntKind.u64.wrap (2 ^ (width - 64).toNat) - 1))), .int .u64 (b : Int)]) (by simp [results, Try.results11, go_sem]) rfl ⟨rfl, (below2 _ _ _).drew⟩
    · have hz := IsV.of (cut_all (width := width) hw (by omega))
      rw [← hz.hi, ← hz.lo, ea, eb]
      clear hz hw ea eb
      go_enter Try.func11, Try.ntmps11
      go_wp2
      exact bodyPost_ret (v := .agg #[.int .u64 (a : Int), .int .u64 (b : Int)]) (by simp [results, Try.results11, go_sem]) rfl ⟨rfl, below2 _ _ _⟩

/-- The program's draws: n words, t of them taken. -/
structure Dr (w : World) (g gb n : Nat) (c : Nat → Nat) (t : Nat) : Prop where
  all : w.cell? ⟨g, 0, none⟩ = some (.slice (some ⟨gb, 0, none⟩) n n)
  tk : Lies w ⟨g, 1, none⟩ (.int .i64 (t : Int))
  ar : ∀ i, i < n → Wd w gb (i * 2) (c i)
  ne : g ≠ gb
  le : t ≤ n
  big : n ≤ 4096
theorem Dr.but {S : Nat → Prop} {w w' : World} {g gb n : Nat} {c : Nat → Nat} {t : Nat} (hb : But S w w') (h : Dr w g gb n c t) (h1 : ¬ S g) (h2 : ¬ S gb) : Dr w' g gb n c t :=
  ⟨cell_but hb h.all h1, h.tk.but hb h1, fun i hi => (h.ar i hi).but hb h2, h.ne, h.le, h.big⟩
theorem Dr.later {w w' : World} {g gb n : Nat} {c : Nat → Nat} {t : Nat} (hb : Below w.heap.size w w') (h : Dr w g gb n c t) : Dr w' g gb n c t := h.but (S := fun _ => False) (But.of hb) (fun h => h) (fun h => h)
theorem Dr.alloc {w : World} {g gb n : Nat} {c : Nat → Nat} {t : Nat} (h : Dr w g gb n c t) (o : Obj) : Dr (w.alloc o) g gb n c t := h.later (below1 _ _)
theorem Dr.drew {w : World} {g gb n : Nat} {c : Nat → Nat} {t : Nat} (h : Dr w g gb n c t) : Dr w.drew g gb n c t := h.later (Below.refl _ _).drew
theorem Dr.lt {w : World} {g gb n : Nat} {c : Nat → Nat} {t : Nat} (h : Dr w g gb n c t) : g < w.heap.size := World.block_lt_of_cell? _ _ h.all
theorem Dr.put {w : World} {g gb n : Nat} {c : Nat → Nat} {t : Nat} (h : Dr w g gb n c t) {t' : Nat} (ht : t' ≤ n) : Dr (w.setCell ⟨g, 1, none⟩ (.int .i64 (t' : Int))) g gb n c t' :=
  ⟨cell_set_ne h.all (by omega), h.tk.put, fun i hi => by
    obtain ⟨h1, h2⟩ := h.ar i hi
    have hne := h.ne
    exact ⟨by rw [World.cell?_setCell_other _ _ _ _ (addr_ne (.inl hne))]; exact h1, by rw [World.cell?_setCell_other _ _ _ _ (addr_ne (.inl hne))]; exact h2⟩, h.ne, ht, h.big⟩

def newE (n : Nat) (width : Int) : Int := if width < 1 ∨ 128 < width then 18 else if 4096 < n then 23 else 0
theorem newE_zero {n : Nat} {width : Int} (h : newE n width = 0) : 1 ≤ width ∧ width ≤ 128 ∧ n ≤ 4096 := by
  unfold newE at h
  repeat' split at h
  all_goals omega
set_option maxRecDepth 100000 in
set_option maxHeartbeats 1000000 in
theorem new_bad (a : Option Addr) (n cap : Nat) (width : Int) (w : World) (he : newE n width ≠ 0) :
    Calls Try.prog 6 #[.slice a n cap, .int .i64 width] w fun e w' => e = .returned (.tuple #[.pointer none, .int .i64 (newE n width)]) ∧ w' = w := by
  by_cases h1 : width < 1
  · have e1 : newE n width = 18 := by unfold newE; rw [if_pos (.inl h1)]
    rw [e1]
    clear he e1
    go_enter Try.func6, Try.ntmps6
    go_wp2
    exact bodyPost_ret (v := .tuple #[.pointer none, .int .i64 18]) (by simp [results, Try.results6, go_sem]) rfl ⟨rfl, rfl⟩
  by_cases h2 : 128 < width
  · have e1 : newE n width = 18 := by unfold newE; rw [if_pos (.inr h2)]
    rw [e1]
    clear he e1
    go_enter Try.func6, Try.ntmps6
    go_wp2
    exact bodyPost_ret (v := .tuple #[.pointer none, .int .i64 18]) (by simp [results, Try.results6, go_sem]) rfl ⟨rfl, rfl⟩
  by_cases h3 : 4096 < n
  · have e1 : newE n width = 23 := by unfold newE; rw [if_neg (by omega), if_pos h3]
    rw [e1]
    clear he e1
    go_enter Try.func6, Try.ntmps6
    go_wp2
    exact bodyPost_ret (v := .tuple #[.pointer none, .int .i64 23]) (by simp [results, Try.results6, go_sem]) rfl ⟨rfl, rfl⟩
  · exact absurd (by unfold newE; rw [if_neg (by omega), if_neg h3]) he
set_option maxRecDepth 100000 in
set_option maxHeartbeats 1000000 in
theorem new_ok (a : Option Addr) (n cap : Nat) (f : Nat → Nat) (width : Int) (w : World) (h : Ws w a n cap f) (h1 : 1 ≤ width) (h2 : width ≤ 128) (hn : n ≤ 4096) :
    Calls Try.prog 6 #[.slice a n cap, .int .i64 width] w fun e w' => ∃ g gb, e = .returned (.tuple #[.pointer (some ⟨g, 0, none⟩), .int .i64 0]) ∧ Dr w' g gb n (fun j => cutN (f j) width) 0 ∧ w.heap.size ≤ g ∧ w.heap.size ≤ gb ∧ gb < w'.heap.size ∧ Below w.heap.size w w' := by
  go_enter Try.func6, Try.ntmps6
  go_wp2_with (first | (go_at_call 15; refine (cuts_any _ _ _ f _ _ h hn).mono ?_; rintro e w1 ⟨rfl, hA, hb⟩))
  have hlt := hA.lt
  refine bodyPost_ret (v := .tuple #[.pointer (some ⟨w1.heap.size, 0, none⟩), .int .i64 0]) (by simp [results, Try.results6, go_sem]) rfl ⟨_, w.heap.size, rfl, ?_, hb.size, Nat.le_refl _, by simp; omega, hb.alloc hb.size _⟩
  exact ⟨by simp [go_sem], ⟨by simp [go_sem], by simp [go_sem]⟩, fun i hi => (hA.at_ i hi).later (below1 _ _), by omega, Nat.zero_le _, hn⟩
end Go.Proofs.Ytfibidfkhfkfpaa
