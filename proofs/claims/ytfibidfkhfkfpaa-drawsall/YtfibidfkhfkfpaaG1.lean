import Derived.Test.YtfibidfkhfkfpaaC5
namespace Go.Proofs.Ytfibidfkhfkfpaa
open Go.RowKit
set_option linter.unusedVariables false

/-- The words with two more behind them. -/
def withTwo (f : Nat → Nat) (n i : Nat) : Nat := if i < n then f i else if i = n then 7 * B64 else 8 * B64
theorem withTwo_lt (f : Nat → Nat) (n i : Nat) (h : i < n) : withTwo f n i = f i := by unfold withTwo; rw [if_pos h]
theorem withTwo_7 (f : Nat → Nat) (n : Nat) : withTwo f n n = 7 * B64 := by unfold withTwo; rw [if_neg (by omega), if_pos rfl]
theorem withTwo_8 (f : Nat → Nat) (n : Nat) : withTwo f n (n + 1) = 8 * B64 := by unfold withTwo; rw [if_neg (by omega), if_neg (by omega)]
theorem withTwo_small {f : Nat → Nat} (h : ∀ i, f i < B64 * B64) (n i : Nat) : withTwo f n i < B64 * B64 := by
  unfold withTwo
  repeat' split
  · exact h i
  · decide
  · decide
theorem wvs_two (f : Nat → Nat) (n : Nat) : wvs f n ++ [.int .u64 7, .int .u64 0, .int .u64 8, .int .u64 0] = wvs (withTwo f n) (n + 2) := by
  rw [show n + 2 = (n + 1) + 1 from rfl, wvs_succ, wvs_succ, wvs_congr (withTwo f n) f n (fun i hi => withTwo_lt f n i hi), withTwo_7, withTwo_8, List.append_assoc]
  rfl
/-- The words in memory of their own. -/
theorem copy_run {w : World} {x : Option Addr} {k cap : Nat} {f : Nat → Nat} (h : Ws w x k cap f) (hk : k * 16 ≤ 140737488355328) (bk : Nat) (hbk : bk = w.heap.size) :
    ∃ g1 c1 w1, (Builtin.append_ #[22, 22] 22 #[.slice (some ⟨bk, 0, none⟩) 0 0, .slice x k cap]).run Try.prog (w.alloc (.cells #[] 25)) = .ok (.slice (some ⟨g1, 0, none⟩) k c1) w1 ∧ w1.ownsRow w.heap.size 25 2 (.slice (some ⟨g1, 0, none⟩) k c1) k (wvs f k) ∧ Below w.heap.size w w1 := by
  subst hbk
  obtain ⟨i, hi, hz0, hz1, hz2⟩ := info_parts info25
  have o0 : (w.alloc (.cells #[] 25)).ownsRow w.heap.size 25 2 (.slice (some ⟨w.heap.size, 0, none⟩) 0 0) 0 [] := ⟨rfl, .inr ⟨_, _, _, rfl, Nat.le_refl _, heap_alloc_new w _, Nat.le_refl _, by unfold maxLen; omega, rfl, rfl⟩⟩
  cases x with
  | none =>
    obtain ⟨rfl, rfl⟩ := h.none_ rfl
    exact ⟨_, _, _, run_append_owned_none (P := Try.prog) (w := w.alloc (.cells #[] 25)) w.heap.size 22 22 25 i 2 Try.underlying22 hi _ 0 _ o0, o0, below1 _ _⟩
  | some y =>
    obtain ⟨v1, w1, hr, h2, h3, h4, _⟩ := run_append_own_at (P := Try.prog) (w.alloc (.cells #[] 25)) w.heap.size 22 22 25 i _ 2 16 Try.underlying22 hi hz0 hz1 hz2 rfl (by decide) _ 0 _ o0 y k cap (wvs f k) (wvs_length f k) (fun j u hu => cell_later (below1 _ _) (h.cells y rfl j u hu)) (wvs_one f k) (by unfold maxLen; omega) (by omega) (by simp)
    rw [Nat.zero_add] at h2
    have hb : Below w.heap.size w w1 := (below1 _ _).trans ((Below.refl _ _).grown h3 (by simp) (own_block o0))
    obtain ⟨g1, c1, rfl⟩ : ∃ g1 c1, v1 = .slice (some ⟨g1, 0, none⟩) k c1 := by
      rcases h2.2 with ⟨h, h'⟩ | ⟨g, c, cur, hv, _⟩
      · exact absurd (h4.1 h).1 (by simp)
      · exact ⟨g, c, hv⟩
    exact ⟨g1, c1, w1, hr, by simpa using h2, hb⟩
theorem two_run {w : World} {base g1 k c1 : Nat} {f : Nat → Nat} (h : w.ownsRow base 25 2 (.slice (some ⟨g1, 0, none⟩) k c1) k (wvs f k)) (hk : k ≤ 4096) (hb : base ≤ w.heap.size) (bk : Nat) (hbk : bk = w.heap.size) :
    ∃ g2 c2 w2, (Builtin.append_ #[22, 22] 22 #[.slice (some ⟨g1, 0, none⟩) k c1, .slice (some ⟨bk, 0, none⟩) 2 2]).run Try.prog (w.alloc (.cells #[.int .u64 7, .int .u64 0, .int .u64 8, .int .u64 0] 25)) = .ok (.slice (some ⟨g2, 0, none⟩) (k + 2) c2) w2 ∧ Ar w2 g2 (k + 2) (withTwo f k) ∧ base ≤ g2 ∧ k + 2 ≤ c2 ∧ Below base w w2 := by
  subst hbk
  obtain ⟨i, hi, hz0, hz1, hz2⟩ := info_parts info25
  have o1 := own_later (below1 w (.cells #[.int .u64 7, .int .u64 0, .int .u64 8, .int .u64 0] 25)) h
  have hnew : ∀ j u, [Value.int .u64 7, .int .u64 0, .int .u64 8, .int .u64 0][j]? = some u → (w.alloc (.cells #[.int .u64 7, .int .u64 0, .int .u64 8, .int .u64 0] 25)).cell? ((⟨w.heap.size, 0, none⟩ : Addr).add j) = some u := by
    intro j u hu
    rw [addr_add0]
    have hj : j < 4 := (List.getElem?_eq_some_iff.1 hu).1
    have : j = 0 ∨ j = 1 ∨ j = 2 ∨ j = 3 := by omega
    rcases this with rfl | rfl | rfl | rfl <;> (simp at hu; subst hu; simp [go_sem])
  obtain ⟨v2, w2, hr2, o2, g2, _, _⟩ := run_append_own_at (P := Try.prog) (w.alloc (.cells #[.int .u64 7, .int .u64 0, .int .u64 8, .int .u64 0] 25)) base 22 22 25 i _ 2 16 Try.underlying22 hi hz0 hz1 hz2 rfl (by decide) _ k _ o1 ⟨w.heap.size, 0, none⟩ 2 2 [.int .u64 7, .int .u64 0, .int .u64 8, .int .u64 0] rfl hnew (fun u hu => by
    simp only [List.mem_cons, List.not_mem_nil, or_false] at hu
    rcases hu with rfl | rfl | rfl | rfl <;> rfl) (by unfold maxLen; omega) (by omega) (by simp; omega)
  rw [wvs_two] at o2
  obtain ⟨gl, cl, rfl⟩ : ∃ gl cl, v2 = .slice (some ⟨gl, 0, none⟩) (k + 2) cl := by
    rcases o2.2 with ⟨_, h'⟩ | ⟨g, c, cur, hv, _⟩
    · omega
    · exact ⟨g, c, hv⟩
  obtain ⟨ha, hb1, hb2⟩ := ar_of o2
  exact ⟨gl, cl, w2, hr2, ha, hb1, hb2, (((below1 w (.cells #[.int .u64 7, .int .u64 0, .int .u64 8, .int .u64 0] 25)).mono hb).grown g2 (by simp; omega) (own_block o1))⟩
end Go.Proofs.Ytfibidfkhfkfpaa
