import Derived.Test.YtcafmhlnfkgegaaW6
namespace Go.Proofs.Ytcafmhlnfkgegaa
open Go.RowKit

theorem Lies.keep {w : World} {p q : Addr} {u v : Value} (h : Lies w p v) (hn : q ≠ p) : Lies (w.setCell q u) p v :=
  ⟨by rw [World.cell?_setCell_other _ _ _ _ hn]; exact h.1, by rw [World.frozen?_setCell]; exact h.2⟩
theorem Lies.put {w : World} {p : Addr} {u v : Value} (h : Lies w p v) : Lies (w.setCell p u) p u :=
  ⟨World.cell?_setCell_same _ _ _ h.1, by rw [World.frozen?_setCell]; exact h.2⟩

structure TextAt (w w' : World) (N m : Nat) : Prop where
  below : Below w.heap.size w w'
  word : ∃ c d : Int, IsV c d (N / 16 ^ m) ∧ Lies w' ⟨w.heap.size, 0, none⟩ (.int .u64 c) ∧ Lies w' ⟨w.heap.size, 1, none⟩ (.int .u64 d)
  room : ∀ p, p < 32 → ∃ v, Lies w' ⟨w.heap.size + 1, p, none⟩ v
  done : ∀ p, p < 32 → 32 ≤ p + m → w'.cell? ⟨w.heap.size + 1, p, none⟩ = some (.int .u8 (hexC (N / 16 ^ (31 - p) % 16) : Int))

theorem addr_ne {b o b' o' : Nat} (h : b ≠ b' ∨ o ≠ o') : (⟨b, o, none⟩ : Addr) ≠ ⟨b', o', none⟩ := by
  intro e
  simp only [Addr.mk.injEq, and_true] at e
  omega

/-- One round: the digit laid, the word shortened. -/
theorem TextAt.next {w w' w1 w2 : World} {N m : Nat} {c d c0 d0 : Int} (h : TextAt w w' N m) (hm : m < 32) (h1 : Below w'.heap.size w' w1)
    (h2 : Below (w1.setCell ⟨w.heap.size + 1, 31 - m, none⟩ (.int .u8 (hexC (N / 16 ^ m % 16) : Int))).heap.size (w1.setCell ⟨w.heap.size + 1, 31 - m, none⟩ (.int .u8 (hexC (N / 16 ^ m % 16) : Int))) w2)
    (hw0 : Lies w2 ⟨w.heap.size, 0, none⟩ (.int .u64 c0)) (hw1 : Lies w2 ⟨w.heap.size, 1, none⟩ (.int .u64 d0))
    (hv : IsV c d (N / 16 ^ m / 16)) : TextAt w ((w2.setCell ⟨w.heap.size, 0, none⟩ (.int .u64 c)).setCell ⟨w.heap.size, 1, none⟩ (.int .u64 d)) N (m + 1) := by
  have hr : ∀ p, p < 32 → ∃ v, Lies w2 ⟨w.heap.size + 1, p, none⟩ v := fun p hp => by
    obtain ⟨v, hv⟩ := h.room p hp
    obtain ⟨v', hv'⟩ := (hv.later h1).setCell (q := ⟨w.heap.size + 1, 31 - m, none⟩) (u := .int .u8 (hexC (N / 16 ^ m % 16) : Int))
    exact ⟨v', hv'.later h2⟩
  refine ⟨?_, ⟨c, d, ?_, ?_, ?_⟩, ?_, ?_⟩
  · exact ((below_call (Below.setCell (below_call h.below h1) (Nat.le_succ _) _) h2).setCell (Nat.le_refl _) _).setCell (Nat.le_refl _) _
  · rw [Nat.pow_succ, ← Nat.div_div_eq_div_mul]; exact hv
  · exact hw0.put.keep (addr_ne (.inr (by omega)))
  · exact (hw1.keep (addr_ne (.inr (by omega)))).put
  · intro p hp
    obtain ⟨v, hv⟩ := hr p hp
    exact ⟨v, (hv.keep (addr_ne (.inl (by omega)))).keep (addr_ne (.inl (by omega)))⟩
  · intro p hp hpm
    rw [World.cell?_setCell_other _ _ _ _ (addr_ne (.inl (by omega))), World.cell?_setCell_other _ _ _ _ (addr_ne (.inl (by omega)))]
    by_cases e : p + m = 31
    · obtain ⟨v, hv⟩ := h.room p hp
      obtain rfl : p = 31 - m := by omega
      have := (hv.later h1).put (u := .int .u8 (hexC (N / 16 ^ m % 16) : Int))
      have e2 : 31 - (31 - m) = m := by omega
      rw [e2]
      exact cell_later h2 this.1
    · refine cell_later h2 ?_
      rw [World.cell?_setCell_other _ _ _ _ (addr_ne (.inr (by omega)))]
      exact cell_later h1 (h.done p hp (by omega))

def zero32 : Array Value := Array.replicate 32 (.int .u8 0)
theorem zero32_at {i : Nat} (h : i < 32) : zero32[i]? = some (.int .u8 0) := by simp [zero32, h]

/-- The beginning: nothing laid yet. -/
theorem TextAt.start (w : World) {a b : Int} {N : Nat} (h : IsV a b N) : TextAt w ((w.alloc (Obj.cells #[Value.int IntKind.u64 a, Value.int IntKind.u64 b] 24)).alloc (Obj.cells zero32 55)) N 0 := by
  refine ⟨below2 _ _ _, ⟨a, b, by simpa using h, ?_, ?_⟩, ?_, fun p hp hq => by omega⟩
  · exact (lies_new (by simp)).alloc _
  · exact (lies_new (by simp)).alloc _
  · intro p hp
    have := lies_new (w := w.alloc (Obj.cells #[Value.int IntKind.u64 a, Value.int IntKind.u64 b] 24)) (t := 55) (zero32_at hp)
    exact ⟨_, by simpa using this⟩
theorem zero32_eq : zero32 = #[Value.int IntKind.u8 0, Value.int IntKind.u8 0, Value.int IntKind.u8 0, Value.int IntKind.u8 0, Value.int IntKind.u8 0, Value.int IntKind.u8 0, Value.int IntKind.u8 0, Value.int IntKind.u8 0, Value.int IntKind.u8 0, Value.int IntKind.u8 0, Value.int IntKind.u8 0, Value.int IntKind.u8 0, Value.int IntKind.u8 0, Value.int IntKind.u8 0, Value.int IntKind.u8 0, Value.int IntKind.u8 0, Value.int IntKind.u8 0, Value.int IntKind.u8 0, Value.int IntKind.u8 0, Value.int IntKind.u8 0, Value.int IntKind.u8 0, Value.int IntKind.u8 0, Value.int IntKind.u8 0, Value.int IntKind.u8 0, Value.int IntKind.u8 0, Value.int IntKind.u8 0, Value.int IntKind.u8 0, Value.int IntKind.u8 0, Value.int IntKind.u8 0, Value.int IntKind.u8 0, Value.int IntKind.u8 0, Value.int IntKind.u8 0] := rfl
theorem TextAt.start' (w : World) {a b : Int} {N : Nat} (h : IsV a b N) : TextAt w ((w.alloc (Obj.cells #[Value.int IntKind.u64 a, Value.int IntKind.u64 b] 24)).alloc (Obj.cells #[Value.int IntKind.u8 0, Value.int IntKind.u8 0, Value.int IntKind.u8 0, Value.int IntKind.u8 0, Value.int IntKind.u8 0, Value.int IntKind.u8 0, Value.int IntKind.u8 0, Value.int IntKind.u8 0, Value.int IntKind.u8 0, Value.int IntKind.u8 0, Value.int IntKind.u8 0, Value.int IntKind.u8 0, Value.int IntKind.u8 0, Value.int IntKind.u8 0, Value.int IntKind.u8 0, Value.int IntKind.u8 0, Value.int IntKind.u8 0, Value.int IntKind.u8 0, Value.int IntKind.u8 0, Value.int IntKind.u8 0, Value.int IntKind.u8 0, Value.int IntKind.u8 0, Value.int IntKind.u8 0, Value.int IntKind.u8 0, Value.int IntKind.u8 0, Value.int IntKind.u8 0, Value.int IntKind.u8 0, Value.int IntKind.u8 0, Value.int IntKind.u8 0, Value.int IntKind.u8 0, Value.int IntKind.u8 0, Value.int IntKind.u8 0] 55)) N 0 := by
  rw [← zero32_eq]; exact TextAt.start w h
/-- How the loop finds things: m digits are laid. -/
def TextRel (w : World) (N : Nat) (t : Value) (w' : World) : Prop :=
  ∃ q m : Nat, q + m = 32 ∧ 1 ≤ m ∧ t = .int .i64 (q : Int) ∧ TextAt w w' N m ∧ (m = 1 ∨ N / 16 ^ (m - 1) ≠ 0)
theorem TextAt.next' {w w' w1 w2 : World} {N m r : Nat} {c d c0 d0 : Int} (h : TextAt w w' N m) (hm : r + m = 31) (h1 : Below w'.heap.size w' w1)
    (h2 : Below (w1.setCell ⟨w.heap.size + 1, r, none⟩ (.int .u8 (hexC (N / 16 ^ m % 16) : Int))).heap.size (w1.setCell ⟨w.heap.size + 1, r, none⟩ (.int .u8 (hexC (N / 16 ^ m % 16) : Int))) w2)
    (hw0 : Lies w2 ⟨w.heap.size, 0, none⟩ (.int .u64 c0)) (hw1 : Lies w2 ⟨w.heap.size, 1, none⟩ (.int .u64 d0))
    (hv : IsV c d (N / 16 ^ m / 16)) : TextAt w ((w2.setCell ⟨w.heap.size, 0, none⟩ (.int .u64 c)).setCell ⟨w.heap.size, 1, none⟩ (.int .u64 d)) N (m + 1) := by
  obtain rfl : r = 31 - m := by omega
  exact h.next (by omega) h1 h2 hw0 hw1 hv

theorem pow16_32 {N : Nat} (h : N < B64 * B64) {m : Nat} (hz : N / 16 ^ m ≠ 0) : m < 32 := by
  rcases Nat.lt_or_ge m 32 with h1 | h1
  · exact h1
  · exfalso
    apply hz
    apply Nat.div_eq_of_lt
    calc N < B64 * B64 := h
      _ = 16 ^ 32 := by decide
      _ ≤ 16 ^ m := Nat.pow_le_pow_right (by omega) h1

/-- The lowest m digits of N, the highest first; how many N has; its text. -/
def lowL (N m : Nat) : List Nat := (List.range m).map fun i => hexC (N / 16 ^ (m - 1 - i) % 16)
def ndig (N : Nat) : Nat := ((List.range 32).find? fun k => decide (N < 16 ^ (k + 1))).getD 31 + 1
def textL (N : Nat) : List Nat := lowL N (ndig N)
def strB (l : List Nat) : ByteArray := ⟨(l.map UInt8.ofNat).toArray⟩

theorem ndig_of {N m : Nat} (h1 : 1 ≤ m) (h2 : m ≤ 32) (hz : N / 16 ^ m = 0) (hp : m = 1 ∨ N / 16 ^ (m - 1) ≠ 0) : ndig N = m := by
  have hlt : N < 16 ^ m := by
    rcases Nat.div_eq_zero_iff.1 hz with h | h
    · have : 0 < 16 ^ m := Nat.pow_pos (by omega)
      omega
    · exact h
  have hge : ∀ k, k < m - 1 → ¬ N < 16 ^ (k + 1) := by
    intro k hk hlt'
    rcases hp with hp | hp
    · omega
    · apply hp
      apply Nat.div_eq_of_lt
      exact Nat.lt_of_lt_of_le hlt' (Nat.pow_le_pow_right (by omega) (by omega))
  have hf : (List.range 32).find? (fun k => decide (N < 16 ^ (k + 1))) = some (m - 1) := by
    rw [List.find?_range_eq_some]
    refine ⟨by rw [decide_eq_true_eq, show m - 1 + 1 = m by omega]; exact hlt, by simp; omega, fun j hj => ?_⟩
    simpa using hge j hj
  unfold ndig
  rw [hf]
  show m - 1 + 1 = m
  omega
theorem hexC_lt (d : Nat) (h : d < 16) : hexC d < 256 := by unfold hexC; split <;> omega

theorem slice32 (w : World) (T q m : Nat) (hq : q + m = 32) (hm : 1 ≤ m) : (Instr.sliceAt 55 (Value.pointer (some ⟨T, 0, none⟩)) (some (Value.int IntKind.i64 (q : Int))) none none).run Try.prog w = .ok (.slice (some ⟨T, q, none⟩) m m) w := by
  have h1 : (q : Int) ≤ 32 := by omega
  have h2 : ¬ 32 = q := by omega
  have h3 : 32 - q = m := by omega
  simp [go_sem, h1, h2, h3]
theorem conv_text (w : World) (T q m N : Nat) (hq : q + m = 32) (h : ∀ p, p < 32 → 32 ≤ p + m → w.cell? ⟨T, p, none⟩ = some (.int .u8 (hexC (N / 16 ^ (31 - p) % 16) : Int))) :
    (convert 32 9 (.slice (some ⟨T, q, none⟩) m m)).run Try.prog w = .ok (.string (strB (lowL N m))) w := by
  have hl : ((lowL N m).map UInt8.ofNat).length = m := by simp [lowL]
  have := run_convert_bytes_back (P := Try.prog) w 32 9 5 ⟨T, q, none⟩ m ((lowL N m).map UInt8.ofNat) Try.underlying32 Try.underlying5 Try.underlying9 (fun j hj => by
    rw [hl] at hj
    have e1 : (⟨T, q, none⟩ : Addr).add j = ⟨T, q + j, none⟩ := by unfold Addr.add; split <;> simp_all
    rw [e1, h (q + j) (by omega) (by omega)]
    have e2 : 31 - (q + j) = m - 1 - j := by omega
    have e3 := hexC_lt (N / 16 ^ (m - 1 - j) % 16) (Nat.mod_lt _ (by omega))
    simp [lowL, e2, Nat.mod_eq_of_lt e3])
  rw [hl] at this
  exact this

set_option maxHeartbeats 1000000 in
theorem text_any (a b : Int) (N : Nat) (w : World) (h : IsV a b N) :
    Calls Try.prog 15 #[.agg #[.int .u64 a, .int .u64 b]] w fun e w' => e = .returned (.string (strB (textL N))) ∧ Below w.heap.size w w' := by
  have hne := neqW
  have hN := h.lt
  have H0 : Hid _ := TextAt.start' w h
  obtain ⟨v31, T31⟩ := H0.out.room 31 (by omega)
  obtain ⟨c0, d0, hcd0, X0, X1⟩ := H0.out.word
  go_enter Try.func15, Try.ntmps15
  go_wp2_with (first | (go_at_call 32; refine (lastDigit_any _ _ _ _ h).mono ?_; rintro e w1 ⟨rfl, hb1⟩; obtain ⟨t1, t2⟩ := T31.later hb1; have X0' := X0.later hb1; have X1' := X1.later hb1; obtain ⟨x0, x0'⟩ := X0'; obtain ⟨x1, x1'⟩ := X1') | (go_at_call 33; refine (withoutLast_any _ _ _ _ hcd0).mono ?_; rintro e w2 ⟨c, d, rfl, hcd, hb2⟩; have Y0 := ((X0.later hb1).keep (addr_ne (.inl (by omega)))).later hb2; have Y1 := ((X1.later hb1).keep (addr_ne (.inl (by omega)))).later hb2; obtain ⟨y0, y0'⟩ := Y0; obtain ⟨y1, y1'⟩ := Y1; clear t1 t2 x0 x0' x1 x1'))
  go_loopw [4] (TextRel w N) (fun t _ => (intOf t).toNat)
  case atStart =>
    refine ⟨31, 1, by omega, by omega, rfl, ?_, .inl rfl⟩
    exact H0.out.next (by omega) hb1 (by simpa using hb2) ⟨y0, y0'⟩ ⟨y1, y1'⟩ hcd
  case round =>
    clear H0 T31 X0 X1 hb1 hb2 y0 y0' y1 y1' hcd hcd0
    obtain ⟨q, m, hq, hm, rfl, hT, hpre⟩ := hrel
    obtain ⟨c, d, hcd, X0, X1⟩ := hT.word
    have HT : Hid (TextAt w wr N m) := hT
    have HP : Hid (m = 1 ∨ N / 16 ^ (m - 1) ≠ 0) := hpre
    have x0 := X0.1
    have x1 := X1.1
    have hw := wEq_of hcd IsV.zero
    by_cases hz : N / 16 ^ m = 0
    · have hw1 : wEq c d 0 0 = true := by rw [hw]; simpa using hz
      clear hpre hw
      have hsl := slice32 wr (w.heap.size + 1) q m hq hm
      have hcv := conv_text wr (w.heap.size + 1) q m N hq hT.done
      have HD : Hid (ndig N = m) := ndig_of hm (by omega) hz HP.out
      clear hz
      go_wp2
      go_ret
      refine ⟨?_, HT.out.below⟩
      unfold textL
      rw [HD.out]
      rfl
    · have hw1 : wEq c d 0 0 = false := by rw [hw]; simpa using hz
      have h32 := pow16_32 hN hz
      obtain ⟨r, rfl⟩ : ∃ r, q = r + 1 := ⟨q - 1, by omega⟩
      obtain ⟨vr, R⟩ := hT.room r (by omega)
      have hr1 : (r : Int) < 32 := by omega
      have HZ : Hid (¬ N / 16 ^ m = 0) := hz
      clear hpre hw hz hT
      go_wp2_with (first | (go_at_call 32; refine (lastDigit_any _ _ _ _ hcd).mono ?_; rintro e w1 ⟨rfl, hb1⟩; obtain ⟨t1, t2⟩ := R.later hb1; have X0' := X0.later hb1; have X1' := X1.later hb1; obtain ⟨x0, x0'⟩ := X0'; obtain ⟨x1, x1'⟩ := X1') | (go_at_call 33; refine (withoutLast_any _ _ _ _ hcd).mono ?_; rintro e w2 ⟨c, d, rfl, hcd, hb2⟩; have Y0 := ((X0.later hb1).keep (addr_ne (.inl (by omega)))).later hb2; have Y1 := ((X1.later hb1).keep (addr_ne (.inl (by omega)))).later hb2; obtain ⟨y0, y0'⟩ := Y0; obtain ⟨y1, y1'⟩ := Y1; clear t1 t2))
      refine ⟨⟨r, m + 1, by omega, by omega, rfl, HT.out.next' (by omega) hb1 hb2 ⟨y0, y0'⟩ ⟨y1, y1'⟩ hcd, .inr HZ.out⟩, by simp [intOf]⟩
end Go.Proofs.Ytcafmhlnfkgegaa
