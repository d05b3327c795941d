import Derived.Test.YtjncgpekmilpeaaE2
namespace Go.Proofs.Ytjncgpekmilpeaa
open Go.RowKit
set_option linter.unusedVariables false

theorem Row.but {S : Nat → Prop} {w w' : World} {a : Option Addr} {n cap : Nat} {L : List Nat} (hb : But S w w') (h : Row w a n cap L) (hn : ∀ k, Blk a k → L ≠ [] → ¬ S k) : Row w' a n cap L := by
  refine ⟨h.len, h.cap_, h.none_, fun x hx j u hu => ?_, h.small⟩
  have hc := h.cells x hx j u hu
  have hk : (x.add j).block = x.block := by unfold Addr.add; split <;> rfl
  have hbk := hb.block (x.add j).block (World.block_lt_of_cell? _ _ hc) (hn _ ⟨x, hx, hk.symm⟩ (fun e => by subst e; simp [u8s] at hu))
  rw [World.cell?_of_block (w := w) hbk]
  exact hc
theorem Row.blk_lt {w : World} {a : Option Addr} {n cap : Nat} {L : List Nat} (h : Row w a n cap L) (hL : L ≠ []) (k : Nat) (hk : Blk a k) : k < w.heap.size := by
  obtain ⟨x, hx, hk⟩ := hk
  have hl : 0 < L.length := by
    cases L with
    | nil => exact absurd rfl hL
    | cons b r => simp
  have hc := h.cells x hx 0 _ (u8s_get L 0 hl)
  have he : (x.add 0).block = x.block := by unfold Addr.add; split <;> rfl
  have := World.block_lt_of_cell? _ _ hc
  rw [he, hk] at this
  exact this
theorem get_enc (q k : Nat) (R : List Nat) (hq : q < 256 ^ k) : getV (leL q k ++ R) k = q ∧ getE (leL q k ++ R) k = 0 ∧ (leL q k ++ R).drop k = R := by
  have hl := leL_length q k
  obtain ⟨h1, h2⟩ := get_full (L := leL q k ++ R) (k := k) (by simp [hl])
  refine ⟨?_, h2, List.drop_left' hl⟩
  rw [h1, List.take_left' hl, valL_leL, Nat.mod_eq_of_lt hq]
theorem look_enc (q k : Nat) (R : List Nat) (hk : okW (k : Int)) (hq : q < 256 ^ k) : lookV (leL q k ++ R) (k : Int) = q ∧ lookE (leL q k ++ R) (k : Int) = 0 ∧ (leL q k ++ R).drop (numN (leL q k ++ R) (k : Int)) = R := by
  obtain ⟨h1, h2, h3⟩ := get_enc q k R hq
  obtain ⟨e1, e2⟩ := look_get (L := leL q k ++ R) hk
  rw [Int.toNat_natCast] at e1 e2
  have hn : numN (leL q k ++ R) (k : Int) = k := by unfold numN; rw [e2, h2, if_pos rfl, Int.toNat_natCast]
  rw [e1, e2, hn]
  exact ⟨h1, h2, h3⟩
theorem int_enc (q k : Nat) (m : Int) (R : List Nat) (hk : okW (k : Int)) (hq : q < 256 ^ k) (hm : (q : Int) ≤ m) : intV (leL q k ++ R) (k : Int) m = q ∧ intE (leL q k ++ R) (k : Int) m = 0 ∧ (leL q k ++ R).drop (intN (leL q k ++ R) (k : Int) m) = R := by
  obtain ⟨h1, h2, h3⟩ := look_enc q k R hk hq
  have e : intE (leL q k ++ R) (k : Int) m = 0 := by unfold intE; rw [if_neg (by omega), h2, if_neg (by omega), h1, if_neg (by omega)]
  have hn : numN (leL q k ++ R) (k : Int) = (k : Int).toNat := by unfold numN; rw [h2, if_pos rfl]
  refine ⟨by unfold intV; rw [if_pos e, h1], e, ?_⟩
  unfold intN
  rw [if_pos e, ← hn]
  exact h3
theorem words_enc (hi lo : Nat) (R : List Nat) (hhi : hi < 18446744073709551616) (hlo : lo < 18446744073709551616) : loV (leL lo 8 ++ leL hi 8 ++ R) = lo ∧ hiV (leL lo 8 ++ leL hi 8 ++ R) = hi ∧ (leL lo 8 ++ leL hi 8 ++ R).drop 16 = R ∧ 16 ≤ (leL lo 8 ++ leL hi 8 ++ R).length := by
  have l1 := leL_length lo 8
  have l2 := leL_length hi 8
  unfold loV hiV
  rw [List.append_assoc, List.take_left' l1, List.drop_left' l1, List.take_left' l2, valL_leL, valL_leL, Nat.mod_eq_of_lt (by omega), Nat.mod_eq_of_lt (by omega)]
  refine ⟨rfl, rfl, ?_, by simp [l1, l2]; omega⟩
  rw [← List.append_assoc]
  exact List.drop_left' (by simp [l1, l2])
theorem word_enc (hi lo : Nat) (R : List Nat) (hhi : hi < 18446744073709551616) (hlo : lo < 18446744073709551616) : wordHi (leL lo 8 ++ leL hi 8 ++ R) = hi ∧ wordLo (leL lo 8 ++ leL hi 8 ++ R) = lo ∧ wordE (leL lo 8 ++ leL hi 8 ++ R) = 0 ∧ (leL lo 8 ++ leL hi 8 ++ R).drop (wordN (leL lo 8 ++ leL hi 8 ++ R)) = R := by
  obtain ⟨h1, h2, h3, h4⟩ := words_enc hi lo R hhi hlo
  unfold wordHi wordLo wordE wordN
  rw [if_neg (by omega), if_neg (by omega), if_neg (by omega), if_neg (by omega)]
  exact ⟨h2, h1, rfl, h3⟩
theorem cap_enc (o hi lo : Nat) (R : List Nat) (ho : o ≤ 4611686018427387904) (hhi : hi < 18446744073709551616) (hlo : lo < 18446744073709551616) :
    capObj (leL o 8 ++ leL lo 8 ++ leL hi 8 ++ R) = o ∧ capHi (leL o 8 ++ leL lo 8 ++ leL hi 8 ++ R) = hi ∧ capLo (leL o 8 ++ leL lo 8 ++ leL hi 8 ++ R) = lo ∧ capE (leL o 8 ++ leL lo 8 ++ leL hi 8 ++ R) = 0 ∧ (leL o 8 ++ leL lo 8 ++ leL hi 8 ++ R).drop (capN (leL o 8 ++ leL lo 8 ++ leL hi 8 ++ R)) = R := by
  have l0 := leL_length o 8
  have l1 := leL_length lo 8
  have l2 := leL_length hi 8
  obtain ⟨h1, h2, h3, h4⟩ := words_enc hi lo R hhi hlo
  have e0 : leL o 8 ++ leL lo 8 ++ leL hi 8 ++ R = leL o 8 ++ (leL lo 8 ++ leL hi 8 ++ R) := by simp
  have e1 : loV (leL o 8 ++ leL lo 8 ++ leL hi 8 ++ R) = o := by unfold loV; rw [e0, List.take_left' l0, valL_leL, Nat.mod_eq_of_lt (by omega)]
  have e2 : (leL o 8 ++ leL lo 8 ++ leL hi 8 ++ R).drop 8 = leL lo 8 ++ leL hi 8 ++ R := by rw [e0, List.drop_left' l0]
  have e3 : capE (leL o 8 ++ leL lo 8 ++ leL hi 8 ++ R) = 0 := by unfold capE; rw [if_neg (by simp [l0, l1, l2]; omega), e1, if_neg (by omega)]
  obtain ⟨c1, c2, c3, c4⟩ := cap_ok e3
  rw [c1, c2, c3, c4, e1, e2, h1, h2]
  refine ⟨rfl, rfl, rfl, e3, ?_⟩
  have : (24 : Nat) = 8 + 16 := rfl
  rw [this, ← List.drop_drop, e2]
  exact h3
theorem row_enc (L R : List Nat) (n : Nat) (h : L.length = n) : rowE (L ++ R) (n : Int) = 0 ∧ (L ++ R).take (rowN (L ++ R) (n : Int)) = L ∧ (L ++ R).drop (rowN (L ++ R) (n : Int)) = R := by
  have e : rowE (L ++ R) (n : Int) = 0 := by unfold rowE; rw [if_neg (by omega), if_neg (by simp; omega)]
  have hn : rowN (L ++ R) (n : Int) = n := by unfold rowN; rw [if_pos e, Int.toNat_natCast]
  rw [hn]
  exact ⟨e, List.take_left' h, List.drop_left' h⟩
theorem and_low (v k : Nat) (hv : v < 18446744073709551616) (hk : k ≤ 63) : bits .and .u64 (v : Int) ((2 ^ k - 1 : Nat) : Int) = ((v % 2 ^ k : Nat) : Int) := by
  have h2 : (2 : Nat) ^ k ≤ 2 ^ 63 := Nat.pow_le_pow_right (by omega) hk
  rw [u64_and_nat _ _ hv (by omega), Nat.and_two_pow_sub_one_eq_mod]

end Go.Proofs.Ytjncgpekmilpeaa
