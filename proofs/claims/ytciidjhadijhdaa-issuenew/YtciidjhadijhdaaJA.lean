import Derived.Test.YtciidjhadijhdaaI5
import Derived.Test.YtciidjhadijhdaaMD
namespace Go.Proofs.Ytciidjhadijhdaa.D
open Go.RowKit
open Go.Proofs.Ytciidjhadijhdaa.H (B64)
set_option linter.unusedVariables false

/-- What is said of a draw: how many were drawn, and why it ended. -/
def Spec (P : Nat → Bool) (c : Nat → Nat) (n k t : Nat) (R : Nat × Int × Nat) : Prop :=
  ∃ q : Nat, R.2.2 = t + q ∧ q ≤ k ∧ t + q ≤ n ∧
    ((R.2.1 = 0 ∧ 0 < q ∧ R.1 = c (t + q - 1) ∧ P R.1 = false ∧ ∀ j, j < q - 1 → P (c (t + j)) = true) ∨
     (R.2.1 = 11 ∧ R.1 = 0 ∧ t + q = n ∧ q < k ∧ ∀ j, j < q → P (c (t + j)) = true) ∨
     (R.2.1 = 12 ∧ R.1 = 0 ∧ q = k ∧ ∀ j, j < q → P (c (t + j)) = true))
theorem drawR_spec {P : Nat → Bool} {c : Nat → Nat} {n : Nat} : ∀ {k t : Nat}, t ≤ n → Spec P c n k t (drawR P c n k t)
  | 0, t, h => ⟨0, rfl, Nat.le_refl _, h, .inr (.inr ⟨rfl, rfl, rfl, fun j hj => by omega⟩)⟩
  | k + 1, t, h => by
    by_cases ht : t < n
    · cases hp : P (c t) with
      | false =>
        rw [drawR_new ht hp]
        exact ⟨1, rfl, by omega, by omega, .inl ⟨rfl, by omega, rfl, hp, fun j hj => by omega⟩⟩
      | true =>
        rw [drawR_old ht hp]
        obtain ⟨q, h1, h2, h3, hc⟩ := drawR_spec (P := P) (c := c) (n := n) (k := k) (t := t + 1) (by omega)
        have hall : ∀ s, (∀ j, j < s → P (c (t + 1 + j)) = true) → ∀ j, j < s + 1 → P (c (t + j)) = true := fun s hs j hj => by
          cases j with
          | zero => exact hp
          | succ j =>
            have := hs j (by omega)
            rwa [show t + 1 + j = t + (j + 1) by omega] at this
        refine ⟨q + 1, by rw [h1]; omega, by omega, by omega, ?_⟩
        rcases hc with ⟨e1, e2, e3, e4, e5⟩ | ⟨e1, e2, e3, e4, e5⟩ | ⟨e1, e2, e3, e5⟩
        · refine .inl ⟨e1, by omega, by rw [e3]; congr 1; omega, e4, ?_⟩
          have := hall (q - 1) e5
          rwa [show q - 1 + 1 = q + 1 - 1 by omega] at this
        · exact .inr (.inl ⟨e1, e2, by omega, by omega, hall q e5⟩)
        · exact .inr (.inr ⟨e1, e2, by omega, hall q e5⟩)
    · rw [drawR_end ht]
      exact ⟨0, rfl, by omega, by omega, .inr (.inl ⟨rfl, rfl, by omega, by omega, fun j hj => by omega⟩)⟩
/-- The words with two more behind them. -/
def room (f : Nat → Nat) (n i : Nat) : Nat := if i < n then f i else if i = n then 71 * B64 else 72 * B64
theorem room_lt (f : Nat → Nat) (n i : Nat) (h : i < n) : room f n i = f i := by unfold room; rw [if_pos h]
theorem room_71 (f : Nat → Nat) (n : Nat) : room f n n = 71 * B64 := by unfold room; rw [if_neg (by omega), if_pos rfl]
theorem room_72 (f : Nat → Nat) (n : Nat) : room f n (n + 1) = 72 * B64 := by unfold room; rw [if_neg (by omega), if_neg (by omega)]
theorem room_small {f : Nat → Nat} (h : ∀ i, f i < B64 * B64) (n i : Nat) : room f n i < B64 * B64 := by
  unfold room
  repeat' split
  · exact h i
  · decide
  · decide
theorem wvs_room (f : Nat → Nat) (n : Nat) : wvs f n ++ [.int .u64 71, .int .u64 0, .int .u64 72, .int .u64 0] = wvs (room f n) (n + 2) := by
  rw [show n + 2 = (n + 1) + 1 from rfl, wvs_succ, wvs_succ, wvs_congr (room f n) f n (fun i hi => room_lt f n i hi), room_71, room_72, List.append_assoc]
  rfl
theorem hasW_congr {f g : Nat → Nat} {m N : Nat} (h : ∀ i, i < m → f i = g i) : hasW f m N = hasW g m N := by
  induction m with
  | zero => rfl
  | succ m ih => rw [hasW, hasW, ih (fun i hi => h i (by omega)), h m (by omega)]
theorem room_run {w : World} {base g1 k c1 : Nat} {f : Nat → Nat} (h : w.ownsRow base 31 2 (.slice (some ⟨g1, 0, none⟩) k c1) k (wvs f k)) (hk : (k + 2) * 16 ≤ 140737488355328) (hb : base ≤ w.heap.size) (bk : Nat) (hbk : bk = w.heap.size) :
    ∃ g2 c2 w2, (Builtin.append_ #[22, 22] 22 #[.slice (some ⟨g1, 0, none⟩) k c1, .slice (some ⟨bk, 0, none⟩) 2 2]).run Try.prog (w.alloc (.cells #[.int .u64 71, .int .u64 0, .int .u64 72, .int .u64 0] 31)) = .ok (.slice (some ⟨g2, 0, none⟩) (k + 2) c2) w2 ∧ Ar w2 g2 (k + 2) (room f k) ∧ base ≤ g2 ∧ k + 2 ≤ c2 ∧ Below base w w2 := by
  subst hbk
  have o1 := D.own_later (below1 w (.cells #[.int .u64 71, .int .u64 0, .int .u64 72, .int .u64 0] 31)) h
  obtain ⟨i, hi, hz0, hz1, hz2⟩ := info_parts info31
  have hnew : ∀ j u, [Value.int .u64 71, .int .u64 0, .int .u64 72, .int .u64 0][j]? = some u → (w.alloc (.cells #[.int .u64 71, .int .u64 0, .int .u64 72, .int .u64 0] 31)).cell? ((⟨w.heap.size, 0, none⟩ : Addr).add j) = some u := by
    intro j u hu
    rw [addr_add0]
    have hj : j < 4 := (List.getElem?_eq_some_iff.1 hu).1
    have : j = 0 ∨ j = 1 ∨ j = 2 ∨ j = 3 := by omega
    rcases this with rfl | rfl | rfl | rfl <;> (simp at hu; subst hu; simp [go_sem])
  obtain ⟨v2, w2, hr2, o2, g2, _, _⟩ := run_append_own_at (P := Try.prog) (w.alloc (.cells #[.int .u64 71, .int .u64 0, .int .u64 72, .int .u64 0] 31)) base 22 22 31 i _ 2 16 Try.underlying22 hi hz0 hz1 hz2 rfl (by decide) _ k _ o1 ⟨w.heap.size, 0, none⟩ 2 2 [.int .u64 71, .int .u64 0, .int .u64 72, .int .u64 0] rfl hnew (fun u hu => by
    simp only [List.mem_cons, List.not_mem_nil, or_false] at hu
    rcases hu with rfl | rfl | rfl | rfl <;> rfl) (by unfold maxLen; omega) (by omega) (by simp; omega)
  rw [wvs_room] at o2
  obtain ⟨gl, cl, rfl⟩ : ∃ gl cl, v2 = .slice (some ⟨gl, 0, none⟩) (k + 2) cl := by
    rcases o2.2 with ⟨_, h'⟩ | ⟨g, c, cur, hv, _⟩
    · omega
    · exact ⟨g, c, hv⟩
  obtain ⟨ha, hb1, hb2⟩ := ar_of o2
  exact ⟨gl, cl, w2, hr2, ha, hb1, hb2, (((below1 w (.cells #[.int .u64 71, .int .u64 0, .int .u64 72, .int .u64 0] 31)).mono hb).grown g2 (by simp; omega) (D.own_block o1))⟩
def AmRel (w1 : World) (f : Nat → Nat) (N m : Nat) (t : Value) (w' : World) : Prop :=
  ∃ i : Nat, i ≤ m ∧ t = .int .i64 (i : Int) ∧ Hid (∀ j, j < i → f j ≠ N) ∧ Below w1.heap.size w1 w'
set_option maxRecDepth 100000 in
set_option maxHeartbeats 2000000 in
theorem among_any {w : World} {a : Option Addr} {m cap : Nat} {f : Nat → Nat} (h : Ws w a m cap f) (hm : m ≤ 9223372036854775807) {N : Nat} (hN : N < B64 * B64) :
    Calls Try.prog 12 #[.agg #[.int .u64 (hiI N), .int .u64 (loI N)], .slice a m cap] w fun e w' => e = .returned (.bool (hasW f m N)) ∧ Below w.heap.size w w' := by
  obtain ⟨w1, hw1⟩ : ∃ w1, w1 = w.alloc (Obj.cells #[.int .u64 (hiI N), .int .u64 (loI N)] 31) := ⟨_, rfl⟩
  have hB1 : Below w.heap.size w w1 := by rw [hw1]; exact below1 _ _
  have z0 : w1.cell? ⟨w.heap.size, 0, none⟩ = some (.int .u64 (hiI N)) := by rw [hw1]; simp [go_sem]
  have z1 : w1.cell? ⟨w.heap.size, 1, none⟩ = some (.int .u64 (loI N)) := by rw [hw1]; simp [go_sem]
  have H1 := hid (h.later hB1)
  have HB1 := hid hB1
  have HN := hid hN
  have HS := hid h.small
  have HZ : Hid (∀ W, Below w1.heap.size w1 W → W.cell? ⟨w.heap.size, 0, none⟩ = some (.int .u64 (hiI N)) ∧ W.cell? ⟨w.heap.size, 1, none⟩ = some (.int .u64 (loI N))) := fun W hW => ⟨cell_later hW z0, cell_later hW z1⟩
  clear h hB1 z0 z1 hN
  go_enter Try.func12, Try.ntmps12
  go_upto_region 1 with fail
  rw [← hw1]
  clear hw1
  go_upto_region 2 with fail
  go_loopw [5] (AmRel w1 f N m) (fun t _ => m - (intOf t).toNat)
  case atStart => exact ⟨0, Nat.zero_le _, rfl, fun j hj => by omega, Below.refl _ _⟩
  case round =>
    obtain ⟨i, hi, rfl, hx, hB⟩ := hrel
    by_cases hlt : i < m
    · obtain ⟨b, o, rfl, hw⟩ := (H1.out.later hB).plain (by omega)
      obtain ⟨p0, p1⟩ := hw i hlt
      obtain ⟨z0, z1⟩ := HZ.out wr hB
      have heq := fun W => eqlW (hiI (f i)) (loI (f i)) (hiI N) (loI N) W
      rw [wEq_num (HS.out i) HN.out] at heq
      have HB := hid hB
      by_cases hc : f i = N
      · rw [decide_eq_true hc] at heq
        have HR : Hid (hasW f m N = true) := hasW_iff.2 ⟨i, hlt, hc⟩
        clear hB hc hw
        go_upto_region 4 with fail
        go_quiet (fail)
        go_wp2
        exact bodyPost_ret (v := .bool true) (by simp [results, Try.results12, go_sem]) rfl ⟨by rw [HR.out], below_drewN (below_call HB1.out HB.out) _⟩
      · rw [decide_eq_false hc] at heq
        have hx1 : Hid (∀ j, j < i + 1 → f j ≠ N) := fun j hj => by
          by_cases e : j = i
          · subst e; exact hc
          · exact hx.out j (by omega)
        clear hB hc hw
        go_upto_region 4 with fail
        go_quiet (fail)
        go_wp2
        exact ⟨⟨i + 1, by omega, by go_num, hx1, below_drewN HB.out _⟩, by simp [intOf]; omega⟩
    · obtain rfl : i = m := by omega
      have HB := hid hB
      have HR : Hid (hasW f i N = false) := hasW_no hx.out
      clear hB
      go_wp2
      exact bodyPost_ret (v := .bool false) (by simp [results, Try.results12, go_sem]) rfl ⟨by rw [HR.out], below_call HB1.out HB.out⟩
end Go.Proofs.Ytciidjhadijhdaa.D
