import Derived.Test.YthlojdclncikiaaK1
namespace Go.Proofs.Ythlojdclncikiaa
open Go.RowKit
set_option linter.unusedVariables false
set_option linter.unusedSimpArgs false

/-- The rights of the i-th put. -/
def rightN (L : List Int) (i : Nat) : Int := L.getD i 7
set_option maxRecDepth 100000 in
theorem right_any {w : World} {a : Option Addr} {n cap : Nat} {L : List Int} (h : Row w a n cap (ints L)) (i : Nat) :
    Calls Try.prog 13 #[.slice a n cap, .int .i64 (i : Int)] w fun e w' => e = .returned (.int .i64 (rightN L i)) ∧ w' = w := by
  have hl : L.length = n := by have := h.len; rwa [ints_length] at this
  by_cases hi : i < n
  · obtain ⟨b, o, rfl, hc⟩ := h.plain (by omega)
    have hx := hc i _ (ints_get L i (by omega))
    have HE : Hid (rightN L i = L[i]) := by simp [rightN, Hid, hl, hi]
    generalize L[i] = x at hx HE
    have hd : decide ((i : Int) < (n : Int)) = true := decide_eq_true (by omega)
    clear h hc
    go_enter Try.func13, Try.ntmps13
    go_wp2
    go_ret
    exact ⟨ret_int HE.out.symm, rfl⟩
  · have HE : Hid (rightN L i = 7) := by simp [rightN, Hid, hl, hi]
    have hd : decide ((i : Int) < (n : Int)) = false := decide_eq_false (by omega)
    clear h
    go_enter Try.func13, Try.ntmps13
    go_wp2
    go_ret
    exact ⟨ret_int HE.out.symm, rfl⟩
def AmRel (W : World) (K : List Cp) (c : Cp) (t : Value) (w : World) : Prop :=
  ∃ i : Nat, i ≤ K.length ∧ t = .int .i64 (i : Int) ∧ (∀ j x, j < i → K[j]? = some x → x ≠ c) ∧ Below W.heap.size W w
set_option maxRecDepth 100000 in
set_option maxHeartbeats 1000000 in
theorem among_any {w : World} {a : Option Addr} {n cap : Nat} {K : List Cp} (h : Rd w a n K) (c : Cp) (hn : n ≤ 9223372036854775807) :
    Calls Try.prog 14 #[.slice a n cap, .agg #[.int .i64 c.1, .int .u64 (c.2.1 : Int), .int .u64 (c.2.2 : Int)]] w fun e w' => e = .returned (.bool (decide (c ∈ K))) ∧ Below w.heap.size w w' := by
  have hl := h.len
  subst hl
  have HH := hid h
  have HB1 := hid (below1 w (Obj.cells #[.int .i64 c.1, .int .u64 (c.2.1 : Int), .int .u64 (c.2.2 : Int)] 34))
  have HC : Hid (∀ U : World, Below (w.alloc (Obj.cells #[.int .i64 c.1, .int .u64 (c.2.1 : Int), .int .u64 (c.2.2 : Int)] 34)).heap.size (w.alloc (Obj.cells #[.int .i64 c.1, .int .u64 (c.2.1 : Int), .int .u64 (c.2.2 : Int)] 34)) U → Cel U w.heap.size 0 c) := fun U hU => ⟨cell_later hU (by simp [go_sem]), cell_later hU (by simp [go_sem]), cell_later hU (by simp [go_sem])⟩
  clear h
  go_enter Try.func14, Try.ntmps14
  go_upto_region 2 with fail
  generalize w.alloc (Obj.cells #[.int .i64 c.1, .int .u64 (c.2.1 : Int), .int .u64 (c.2.2 : Int)] 34) = w1 at HB1 HC
  go_loopw [5] (AmRel w1 K c) (fun t _ => K.length - (intOf t).toNat)
  case atStart => exact ⟨0, by omega, rfl, fun j x hj => absurd hj (Nat.not_lt_zero _), Below.refl _ _⟩
  case round =>
    obtain ⟨i, hi, rfl, hno, hB⟩ := hrel
    have HNo := hid hno
    have HB := hid hB
    clear hno hB
    by_cases hlt : i < K.length
    · have hd : decide ((i : Int) < (K.length : Int)) = true := decide_eq_true (by omega)
      obtain ⟨x, hx⟩ : ∃ x, K[i]? = some x := ⟨_, List.getElem?_eq_getElem hlt⟩
      obtain ⟨b, o, rfl, hat⟩ := HH.out.at_ (by omega)
      obtain ⟨x0, x1, x2⟩ := ((hat i x hx).later HB1.out).later HB.out
      obtain ⟨y0, y1, y2⟩ := HC.out _ HB.out
      simp only [Nat.zero_add] at y1 y2
      have heq := fun W => eqlCp x c W
      have HX := hid hx
      clear hx hat
      by_cases hc : x = c
      · have hd1 : decide (x = c) = true := decide_eq_true hc
        simp only [hd1] at heq
        go_upto_region 4 with fail
        go_quiet (fail)
        go_wp2
        go_ret
        exact ⟨ret_bool (decide_eq_true (by rw [← hc]; exact List.mem_of_getElem? HX.out)).symm, below_drewN (below_call HB1.out HB.out) _⟩
      · have hd1 : decide (x = c) = false := decide_eq_false hc
        simp only [hd1] at heq
        go_upto_region 4 with fail
        go_quiet (fail)
        go_wp2
        refine ⟨⟨i + 1, by omega, by go_num, fun j y hj hy => ?_, below_drewN HB.out _⟩, by simp [intOf]; omega⟩
        rcases Nat.lt_or_ge j i with h3 | h3
        · exact HNo.out j y h3 hy
        · obtain rfl : j = i := by omega
          rw [HX.out] at hy
          cases hy
          exact hc
    · have hd : decide ((i : Int) < (K.length : Int)) = false := decide_eq_false (by omega)
      obtain rfl : i = K.length := by omega
      have HE : Hid (decide (c ∈ K) = false) := decide_eq_false (fun hm => by
        obtain ⟨j, hj, e⟩ := List.mem_iff_getElem.1 hm
        exact HNo.out j _ hj (List.getElem?_eq_getElem hj) e)
      go_wp2
      go_ret
      exact ⟨ret_bool HE.out.symm, below_call HB1.out HB.out⟩
end Go.Proofs.Ythlojdclncikiaa
