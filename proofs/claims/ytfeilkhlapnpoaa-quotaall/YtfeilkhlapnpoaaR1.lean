import Derived.Test.YtfeilkhlapnpoaaQ5
namespace Go.Proofs.Ytfeilkhlapnpoaa
open Go.RowKit Go.Maps
set_option linter.unusedVariables false

/-- The document's quota in memory. -/
structure Rf (w : World) (base r : Nat) (e a : Int) (pa : Option Addr) (cap : Nat) (L : List Int) : Prop where
  c0 : w.cell? ⟨r, 0, none⟩ = some (.int .i64 e)
  c1 : w.cell? ⟨r, 1, none⟩ = some (.int .i64 a)
  c2 : Lies w ⟨r, 2, none⟩ (.slice pa L.length cap)
  own : Own w base 3 pa L.length cap (ints L)
  ap : ∀ k, Blk pa k → k ≠ r
  sz : Sz e a L
  lo : base ≤ r
theorem Rf.rlt {w : World} {base r : Nat} {e a : Int} {pa : Option Addr} {cap : Nat} {L : List Int} (h : Rf w base r e a pa cap L) : r < w.heap.size := World.block_lt_of_cell? _ _ h.c0
theorem Rf.but {S : Nat → Prop} {w w' : World} {base r : Nat} {e a : Int} {pa : Option Addr} {cap : Nat} {L : List Int} (h : Rf w base r e a pa cap L) (hb : But S w w') (h1 : ¬ S r) (h2 : ∀ k, Blk pa k → ¬ S k) : Rf w' base r e a pa cap L :=
  ⟨cell_but hb h.c0 h1, cell_but hb h.c1 h1, h.c2.but hb h1, h.own.but hb h2, h.ap, h.sz, h.lo⟩
theorem Rf.later {w w' : World} {base r : Nat} {e a : Int} {pa : Option Addr} {cap : Nat} {L : List Int} (h : Rf w base r e a pa cap L) (hb : Below w.heap.size w w') : Rf w' base r e a pa cap L := h.but (S := fun _ => False) (But.of hb) (fun h => h) (fun _ _ h => h)
theorem count_take (L : List Int) (x : Int) (i : Nat) (h : i < L.length) : (L.take (i + 1)).count x = (L.take i).count x + if L[i] = x then 1 else 0 := by
  rw [take_step _ _ h, List.count_append]
  simp [List.count_cons]
theorem count_take_le (L : List Int) (x : Int) (i : Nat) : (L.take i).count x ≤ L.length := Nat.le_trans List.count_le_length (by rw [List.length_take]; exact Nat.min_le_right _ _)
def ROfRel (W : World) (L : List Int) (x : Int) (s t : Value) (w' : World) : Prop := ∃ i : Nat, i ≤ L.length ∧ s = .int .i64 ((L.take i).count x : Int) ∧ t = .int .i64 (i : Int) ∧ W = w'
set_option maxRecDepth 100000 in
set_option maxHeartbeats 1000000 in
theorem rof_any {w : World} {base r : Nat} {e a : Int} {pa : Option Addr} {cap : Nat} {L : List Int} (h : Rf w base r e a pa cap L) (x : Int) :
    Calls Try.prog 20 #[.pointer (some ⟨r, 0, none⟩), .int .i64 x] w fun e w' => e = .returned (.int .i64 (L.count x : Int)) ∧ w' = w := by
  have HO := hid h.own
  have c2 := h.c2.1
  have hll := h.sz.len
  have ha2 := h.sz.a2
  clear h
  go_enter Try.func20, Try.ntmps20
  go_wp2
  go_loopw [5, 6] (ROfRel w L x) (fun _ t _ => L.length - (intOf t).toNat)
  case atStart => exact ⟨0, Nat.zero_le _, by simp, rfl, rfl⟩
  case round =>
    obtain ⟨i, hi, rfl, rfl, rfl⟩ := hrel
    by_cases hlt : i < L.length
    · have hd : decide ((i : Int) < (L.length : Int)) = true := decide_eq_true (by omega)
      obtain ⟨lb, lo, rfl, h1⟩ := HO.out.read.plain (by omega)
      have y1 := h1 i _ (ints_get _ i hlt)
      have hct := count_take L x i hlt
      have hle := count_take_le L x i
      obtain ⟨y, hy⟩ : ∃ y, y = L[i] := ⟨_, rfl⟩
      rw [← hy] at y1 hct
      obtain ⟨k, hk⟩ : ∃ k : Nat, k = (L.take i).count x := ⟨_, rfl⟩
      rw [← hk] at hct hle
      rw [← hk]
      by_cases hyx : y = x
      · have hq : (y == x) = true := by simp [hyx]
        rw [if_pos hyx] at hct
        have HN : Hid (ROfRel w L x (.int .i64 ((k : Int) + 1)) (.int .i64 ((i : Int) + 1)) w) := ⟨i + 1, by omega, by rw [hct]; rfl, rfl, rfl⟩
        clear h1 hy hk hct
        go_wp2
        exact ⟨HN.out, by simp [intOf]; omega⟩
      · have hq : (y == x) = false := by simp [hyx]
        rw [if_neg hyx] at hct
        have HN : Hid (ROfRel w L x (.int .i64 (k : Int)) (.int .i64 ((i : Int) + 1)) w) := ⟨i + 1, by omega, by rw [hct]; rfl, rfl, rfl⟩
        clear h1 hy hk hct
        go_wp2
        exact ⟨HN.out, by simp [intOf]; omega⟩
    · obtain rfl : i = L.length := by omega
      have hd : decide ((L.length : Int) < (L.length : Int)) = false := by simp
      go_wp2
      go_ret
      exact ⟨ret_int (by rw [List.take_length]), rfl⟩
set_option maxRecDepth 100000 in
set_option maxHeartbeats 1000000 in
theorem rmay_any {w : World} {base r : Nat} {e a : Int} {pa : Option Addr} {cap : Nat} {L : List Int} (h : Rf w base r e a pa cap L) (x : Int) :
    Calls Try.prog 19 #[.pointer (some ⟨r, 0, none⟩), .int .i64 x] w fun s w' => s = .returned (.int .i64 (may e a L x)) ∧ Below w.heap.size w w' := by
  have hof := hid (fun (U : World) (hU : Below w.heap.size w U) => rof_any (h.later hU) x)
  have hm : Hid (may e a L x = if e ≤ (L.count x : Int) then 9 else if a ≤ (L.length : Int) then 10 else 0) := rfl
  have hC0 : Hid (∀ U : World, Below w.heap.size w U → (U.cell? ⟨r, 0, none⟩ = some (.int .i64 e)) ∧ Below w.heap.size w U) := fun U hU => ⟨cell_later hU h.c0, hU⟩
  have HC1 := hid h.c1
  have HC2 := hid h.c2.1
  clear h
  generalize (L.count x : Int) = c at *
  have hr1 : Hid (e ≤ c → may e a L x = 9) := fun h1 => by rw [hm.out, if_pos h1]
  have hr2 : Hid (c < e → a ≤ (L.length : Int) → may e a L x = 10) := fun h1 h2 => by rw [hm.out, if_neg (by omega), if_pos h2]
  have hr3 : Hid (c < e → (L.length : Int) < a → may e a L x = 0) := fun h1 h2 => by rw [hm.out, if_neg (by omega), if_neg (by omega)]
  clear hm
  generalize may e a L x = mm at *
  go_enter Try.func19, Try.ntmps19
  go_upto_region 1 with fail
  go_region_held3 (fun U => (U.cell? ⟨r, 0, none⟩ = some (.int .i64 e)) ∧ Below w.heap.size w U) (first | exact hC0.out _ HB2.out | exact hC0.out _ (Below.refl _ _).drew) (first
    | (go_at_call 20; refine (hof.out _ (Below.refl _ _).drew).mono ?_; rintro e w2 ⟨rfl, hw2⟩; have HB2 : Hid (Below w.heap.size w w2) := (by unfold Hid; rw [hw2]; exact (Below.refl _ _).drew); clear hw2))
  have d1 := cell_later HB2.out HC1.out
  have d2 := cell_later HB2.out HC2.out
  by_cases h1 : e ≤ c
  · have hd : decide (c ≥ e) = true := decide_eq_true h1
    go_wp2
    go_ret
    exact ⟨by rw [hr1.out (by omega)]; rfl, HB2.out⟩
  · have hd : decide (c ≥ e) = false := decide_eq_false h1
    go_upto_region 3 with fail
    go_quiet (fail)
    by_cases h2 : a ≤ (L.length : Int)
    · have hd : decide ((L.length : Int) ≥ a) = true := decide_eq_true h2
      go_wp2
      go_ret
      exact ⟨by rw [hr2.out (by omega) (by omega)]; rfl, below_drewN HB2.out _⟩
    · have hd : decide ((L.length : Int) ≥ a) = false := decide_eq_false h2
      go_wp2
      go_ret
      exact ⟨by rw [hr3.out (by omega) (by omega)]; rfl, below_drewN HB2.out _⟩
end Go.Proofs.Ytfeilkhlapnpoaa
