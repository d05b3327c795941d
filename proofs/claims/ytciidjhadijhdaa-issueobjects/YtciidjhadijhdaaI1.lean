import Derived.Test.YtciidjhadijhdaaMD
import Derived.BigQuiet
namespace Go.Proofs.Ytciidjhadijhdaa.D
open Go.RowKit
open Go.Proofs.Ytciidjhadijhdaa.H (B64)
set_option linter.unusedVariables false

/-- Is N one of the first m? -/
def hasW (f : Nat → Nat) : Nat → Nat → Bool
  | 0, _ => false
  | m + 1, N => hasW f m N || decide (f m = N)
theorem hasW_iff {f : Nat → Nat} {m N : Nat} : hasW f m N = true ↔ ∃ i, i < m ∧ f i = N := by
  induction m with
  | zero => simp [hasW]
  | succ m ih =>
    rw [hasW, Bool.or_eq_true, ih, decide_eq_true_eq]
    constructor
    · rintro (⟨i, hi, e⟩ | e)
      · exact ⟨i, by omega, e⟩
      · exact ⟨m, by omega, e⟩
    · rintro ⟨i, hi, e⟩
      by_cases h : i = m
      · exact .inr (h ▸ e)
      · exact .inl ⟨i, by omega, e⟩
theorem hasW_no {f : Nat → Nat} {m N : Nat} (h : ∀ j, j < m → f j ≠ N) : hasW f m N = false := by
  cases e : hasW f m N with
  | false => rfl
  | true => obtain ⟨i, hi, e⟩ := hasW_iff.1 e; exact absurd e (h i hi)
/-- Drawing till a word is new, k times at most: the word, the code, how many are taken then. -/
def drawR (P : Nat → Bool) (c : Nat → Nat) (n : Nat) : Nat → Nat → Nat × Int × Nat
  | 0, t => (0, 12, t)
  | k + 1, t => if t < n then (if P (c t) = true then drawR P c n k (t + 1) else (c t, 0, t + 1)) else (0, 11, t)
theorem drawR_end {P : Nat → Bool} {c : Nat → Nat} {n k t : Nat} (h : ¬ t < n) : drawR P c n (k + 1) t = (0, 11, t) := by rw [drawR, if_neg h]
theorem drawR_new {P : Nat → Bool} {c : Nat → Nat} {n k t : Nat} (h : t < n) (hp : P (c t) = false) : drawR P c n (k + 1) t = (c t, 0, t + 1) := by rw [drawR, if_pos h, if_neg (by rw [hp]; decide)]
theorem drawR_old {P : Nat → Bool} {c : Nat → Nat} {n k t : Nat} (h : t < n) (hp : P (c t) = true) : drawR P c n (k + 1) t = drawR P c n k (t + 1) := by rw [drawR, if_pos h, if_pos hp]
theorem drawR_le {P : Nat → Bool} {c : Nat → Nat} {n : Nat} : ∀ {k t : Nat}, t ≤ n → (drawR P c n k t).2.2 ≤ n
  | 0, t, h => h
  | k + 1, t, h => by
    rw [drawR]
    split
    · split
      · exact drawR_le (by omega)
      · simpa using by omega
    · exact h
theorem drawR_small {P : Nat → Bool} {c : Nat → Nat} {n : Nat} (hc : ∀ i, i < n → c i < B64 * B64) : ∀ {k t : Nat}, (drawR P c n k t).1 < B64 * B64
  | 0, t => by
    rw [drawR]
    show 0 < B64 * B64
    decide
  | k + 1, t => by
    rw [drawR]
    split
    · split
      · exact drawR_small hc
      · exact hc _ (by assumption)
    · show 0 < B64 * B64
      decide
theorem drawR_congr {P Q : Nat → Bool} {c : Nat → Nat} {n : Nat} (h : ∀ i, i < n → P (c i) = Q (c i)) : ∀ {k t : Nat}, drawR P c n k t = drawR Q c n k t
  | 0, t => rfl
  | k + 1, t => by
    rw [drawR, drawR]
    by_cases ht : t < n
    · rw [if_pos ht, if_pos ht, h t ht, drawR_congr h]
    · rw [if_neg ht, if_neg ht]

def IdxRel (w1 : World) (f : Nat → Nat) (N m : Nat) (t : Value) (w' : World) : Prop :=
  ∃ i : Nat, i ≤ m ∧ t = .int .i64 (i : Int) ∧ Hid (∀ j, j < i → f j ≠ N) ∧ Below w1.heap.size w1 w'
set_option maxRecDepth 100000 in
set_option maxHeartbeats 2000000 in
/-- slices.Index. -/
theorem index_any {w : World} {a : Option Addr} {m cap : Nat} {f : Nat → Nat} (h : Ws w a m cap f) (hm : m ≤ 9223372036854775807) {N : Nat} (hN : N < B64 * B64) :
    Calls Try.prog 55 #[.slice a m cap, .agg #[.int .u64 (hiI N), .int .u64 (loI N)]] w fun e w' => (∃ k : Int, e = .returned (.int .i64 k) ∧ decide (0 ≤ k) = hasW f m N) ∧ Below w.heap.size w w' := by
  obtain ⟨w1, hw1⟩ : ∃ w1, w1 = w.alloc (Obj.cells #[.int .u64 (hiI N), .int .u64 (loI N)] 31) := ⟨_, rfl⟩
  have hB1 : Below w.heap.size w w1 := by rw [hw1]; exact below1 _ _
  have z0 : w1.cell? ⟨w.heap.size, 0, none⟩ = some (.int .u64 (hiI N)) := by rw [hw1]; simp [go_sem]
  have z1 : w1.cell? ⟨w.heap.size, 1, none⟩ = some (.int .u64 (loI N)) := by rw [hw1]; simp [go_sem]
  have H1 := hid (h.later hB1)
  have HB1 := hid hB1
  have HN := hid hN
  have HS := hid h.small
  have HZ : Hid (∀ W, Below w1.heap.size w1 W → W.cell? ⟨w.heap.size, 0, none⟩ = some (.int .u64 (hiI N)) ∧ W.cell? ⟨w.heap.size, 1, none⟩ = some (.int .u64 (loI N))) := fun W hW => ⟨cell_later hW z0, cell_later hW z1⟩
  clear h hB1 z0 z1 hN
  go_enter Try.func55, Try.ntmps55
  go_upto_region 1 with fail
  rw [← hw1]
  clear hw1
  go_upto_region 2 with fail
  go_loopw [8] (IdxRel w1 f N m) (fun t _ => m - (intOf t).toNat)
  case atStart => exact ⟨0, Nat.zero_le _, rfl, fun j hj => by omega, Below.refl _ _⟩
  case round =>
    obtain ⟨i, hi, rfl, hx, hB⟩ := hrel
    by_cases hlt : i < m
    · obtain ⟨b, o, rfl, hw⟩ := (H1.out.later hB).plain (by omega)
      obtain ⟨p0, p1⟩ := hw i hlt
      obtain ⟨z0, z1⟩ := HZ.out wr hB
      have heq := fun W => eqlW (hiI N) (loI N) (hiI (f i)) (loI (f i)) W
      rw [wEq_num HN.out (HS.out i)] at heq
      have HB := hid hB
      by_cases hc : N = f i
      · rw [decide_eq_true hc] at heq
        have HR : Hid (decide (0 ≤ (i : Int)) = hasW f m N) := by
          rw [hasW_iff.2 ⟨i, hlt, hc.symm⟩]; exact decide_eq_true (by omega)
        clear hB hc hw
        go_upto_region 4 with fail
        go_quiet (fail)
        go_wp2
        exact bodyPost_ret (v := .int .i64 (i : Int)) (by simp [results, Try.results55, go_sem]) rfl ⟨⟨_, rfl, HR.out⟩, below_drewN (below_call HB1.out HB.out) _⟩
      · rw [decide_eq_false hc] at heq
        have hx1 : Hid (∀ j, j < i + 1 → f j ≠ N) := fun j hj => by
          by_cases e : j = i
          · subst e; exact fun e => hc e.symm
          · exact hx.out j (by omega)
        clear hB hc hw
        go_upto_region 4 with fail
        go_quiet (fail)
        go_wp2
        exact ⟨⟨i + 1, by omega, by go_num, hx1, below_drewN HB.out _⟩, by simp [intOf]; omega⟩
    · obtain rfl : i = m := by omega
      have HB := hid hB
      have HR : Hid (decide (0 ≤ (-1 : Int)) = hasW f i N) := by rw [hasW_no hx.out]; rfl
      clear hB
      go_wp2
      exact bodyPost_ret (v := .int .i64 (-1)) (by simp [results, Try.results55, go_sem]) rfl ⟨⟨_, rfl, HR.out⟩, below_call HB1.out HB.out⟩
set_option maxRecDepth 100000 in
set_option maxHeartbeats 1000000 in
/-- slices.Contains. -/
theorem contains_any {w : World} {a : Option Addr} {m cap : Nat} {f : Nat → Nat} (h : Ws w a m cap f) (hm : m ≤ 9223372036854775807) {N : Nat} (hN : N < B64 * B64) :
    Calls Try.prog 34 #[.slice a m cap, .agg #[.int .u64 (hiI N), .int .u64 (loI N)]] w fun e w' => e = .returned (.bool (hasW f m N)) ∧ Below w.heap.size w w' := by
  have hc := fun o => hid (index_any (h.alloc o) hm hN)
  clear h
  go_enter Try.func34, Try.ntmps34
  go_wp2_with (first | (go_at_call 55; refine (hc _).out.mono ?_; rintro e w1 ⟨⟨k, rfl, hk⟩, hB⟩; have HK := hid hk; have HB := hid hB; clear hk hB))
  go_ret
  exact ⟨by rw [← HK.out]; rfl, below_call (below1 _ _) HB.out⟩
set_option maxRecDepth 100000 in
set_option maxHeartbeats 1000000 in
/-- Draw's closure. -/
theorem isIn_any {w : World} {k : Nat} {a : Option Addr} {m cap : Nat} {f : Nat → Nat} (hk : w.cell? ⟨k, 0, none⟩ = some (.slice a m cap)) (h : Ws w a m cap f) (hm : m ≤ 9223372036854775807) {N : Nat} (hN : N < B64 * B64) :
    Calls Try.prog 33 #[.agg #[.int .u64 (hiI N), .int .u64 (loI N)], .pointer (some ⟨k, 0, none⟩)] w fun e w' => e = .returned (.bool (hasW f m N)) ∧ Below w.heap.size w w' := by
  have hc := fun o => hid (contains_any (h.alloc o) hm hN)
  have hk1 : (w.alloc (Obj.cells #[.int .u64 (hiI N), .int .u64 (loI N)] 31)).cell? ⟨k, 0, none⟩ = some (.slice a m cap) := cell_later (below1 _ _) hk
  clear h hk
  go_enter Try.func33, Try.ntmps33
  go_wp2_with (first | (go_at_call 34; refine (hc _).out.mono ?_; rintro e w1 ⟨rfl, hB⟩; have HB := hid hB; clear hB))
  go_ret
  exact ⟨rfl, below_call (below1 _ _) HB.out⟩
end Go.Proofs.Ytciidjhadijhdaa.D
