import Derived.Test.YtcafmhlnfkgegaaR7
import Derived.Deep.DeepCutAuto
namespace Go.Proofs.Ytcafmhlnfkgegaa
open Go.RowKit

def preL (N k : Nat) : List Nat := if N / 16 ^ k = 0 then [] else textL (N / 16 ^ k)
theorem text_snoc {M : Nat} (h : M < B64 * B64) : textL M = preL M 1 ++ [hexC (M % 16)] := by
  unfold preL
  rw [Nat.pow_one]
  by_cases hz : M / 16 = 0
  · rw [if_pos hz]
    have hd : ndig M = 1 := ndig_of (Nat.le_refl _) (by omega) (by rw [Nat.pow_one]; exact hz) (.inl rfl)
    unfold textL
    rw [hd, lowL_succ]
    rfl
  · rw [if_neg hz]
    obtain ⟨m, h1, h2, h3, h4⟩ := ndig_ex (N := M / 16) (by have := Nat.div_le_self M 16; omega)
    have hd1 := ndig_of h1 h2 h3 h4
    have e1 : ∀ k, M / 16 / 16 ^ k = M / 16 ^ (k + 1) := fun k => by rw [Nat.div_div_eq_div_mul, Nat.pow_succ, Nat.mul_comm]
    have hne : M / 16 ^ m ≠ 0 := by
      rcases h4 with h4 | h4
      · subst h4; rw [Nat.pow_one]; exact hz
      · rw [e1, show m - 1 + 1 = m by omega] at h4; exact h4
    have hm : m < 32 := pow16_32 h hne
    have hd : ndig M = m + 1 := ndig_of (by omega) (by omega) (by rw [← e1]; exact h3) (.inr (by rw [Nat.add_sub_cancel]; exact hne))
    unfold textL
    rw [hd, hd1, lowL_succ]
theorem pre_snoc {N m : Nat} (h : N < B64 * B64) (hz : N / 16 ^ m ≠ 0) : preL N m = preL N (m + 1) ++ [hexC (N / 16 ^ m % 16)] := by
  have hlt : N / 16 ^ m < B64 * B64 := Nat.lt_of_le_of_lt (Nat.div_le_self _ _) h
  have e : preL N m = textL (N / 16 ^ m) := by unfold preL; rw [if_neg hz]
  rw [e, text_snoc hlt]
  unfold preL
  rw [Nat.pow_one, Nat.div_div_eq_div_mul, ← Nat.pow_succ]
theorem pre_zero {N m : Nat} (hz : N / 16 ^ m = 0) : preL N m = [] ∧ preL N (m + 1) = [] ∧ N / 16 ^ m % 16 = 0 := by
  refine ⟨by unfold preL; rw [if_pos hz], ?_, by rw [hz]⟩
  unfold preL
  rw [if_pos (by rw [Nat.pow_succ, ← Nat.div_div_eq_div_mul, hz])]
theorem pre_ne {N m : Nat} (h : N < B64 * B64) (hz : N / 16 ^ m ≠ 0) (hv : N / 16 ^ m % 16 = 0) : preL N (m + 1) ≠ [] := by
  intro e
  unfold preL at e
  by_cases h1 : N / 16 ^ (m + 1) = 0
  · rw [Nat.pow_succ, ← Nat.div_div_eq_div_mul] at h1
    omega
  · rw [if_neg h1, text_snoc (Nat.lt_of_le_of_lt (Nat.div_le_self _ _) h)] at e
    simp at e
theorem digit_bits (N m : Nat) : bitN N (4 * m) + 2 * bitN N (4 * m + 1) + 4 * bitN N (4 * m + 2) + 8 * bitN N (4 * m + 3) = N / 16 ^ m % 16 := by
  have e : (16 : Nat) ^ m = 2 ^ (4 * m) := by rw [Nat.pow_mul]
  unfold bitN
  rw [e, Nat.pow_add, Nat.pow_add, Nat.pow_add, ← Nat.div_div_eq_div_mul, ← Nat.div_div_eq_div_mul, ← Nat.div_div_eq_div_mul]
  generalize N / 2 ^ (4 * m) = y
  omega
theorem wrap_small {x : Int} (h1 : -1000000 ≤ x) (h2 : x ≤ 1000000) : IntKind.i64.wrap x = x := by rw [IntKind.wrap_i64]; omega
theorem hex_ext : ∀ i : Fin 16, (({ data := #[48, 49, 50, 51, 52, 53, 54, 55, 56, 57, 97, 98, 99, 100, 101, 102] } : ByteArray).extract i.val (i.val + 1)) = strB [hexC i.val] := by decide
theorem strB_append (l k : List Nat) : strB l ++ strB k = strB (l ++ k) := by
  unfold strB
  apply ByteArray.ext
  simp
theorem strB_hex (l : List Nat) (V : Nat) (h : V < 16) : strB l ++ (({ data := #[48, 49, 50, 51, 52, 53, 54, 55, 56, 57, 97, 98, 99, 100, 101, 102] } : ByteArray).extract V (V + 1)) = strB (l ++ [hexC V]) := by
  have := hex_ext ⟨V, h⟩
  rw [show (({ data := #[48, 49, 50, 51, 52, 53, 54, 55, 56, 57, 97, 98, 99, 100, 101, 102] } : ByteArray).extract V (V + 1)) = strB [hexC V] from this, strB_append]
theorem strB_size (l : List Nat) : (strB l).size = l.length := by simp [strB, ByteArray.size]
theorem strB_nil {l : List Nat} : (strB l).toList = [] ↔ l = [] := by
  rw [← List.length_eq_zero_iff, ← List.length_eq_zero_iff (l := l)]
  have : (strB l).toList.length = l.length := by
    rw [ByteArray.toList_eq]; simp [strB]
  rw [this]
theorem pre_len {N : Nat} (h : N < B64 * B64) (k : Nat) : (preL N k).length ≤ 32 := by
  unfold preL
  split
  · simp
  · obtain ⟨m, h1, h2, h3, h4⟩ := ndig_ex (N := N / 16 ^ k) (Nat.lt_of_le_of_lt (Nat.div_le_self _ _) h)
    unfold textL
    rw [lowL_length, ndig_of h1 h2 h3 h4]
    exact h2
theorem val_str {a b : ByteArray} (h : a = b) : Value.string a = Value.string b := by rw [h]
def TRel (w : World) (a b : Int) (N : Nat) (s t : Value) (w' : World) : Prop :=
  ((t = .int .i64 (-1) ∧ s = .string (strB (textL N))) ∨ ∃ m : Nat, m < 32 ∧ t = .int .i64 (m : Int) ∧ s = .string (strB (preL N (m + 1)))) ∧ Below w.heap.size w w' ∧ Box w' w.heap.size a b

theorem trel_next {w wc : World} {a b : Int} {N m : Nat} {s : ByteArray} (hB : Below w.heap.size w wc) (X : Box wc w.heap.size a b) (hm : m < 32) (h0 : m = 0 → s = strB (textL N)) (h1 : m ≠ 0 → s = strB (preL N m)) :
    TRel w a b N (.string s) (.int .i64 ((m : Int) - 1)) wc ∧ (intOf (.int .i64 ((m : Int) - 1)) + 1).toNat < (intOf (.int .i64 (m : Int)) + 1).toNat := by
  refine ⟨⟨?_, hB, X⟩, by simp [intOf]⟩
  cases m with
  | zero => exact .inl ⟨by simp, val_str (h0 rfl)⟩
  | succ j => exact .inr ⟨j, by omega, by go_num, val_str (h1 (by omega))⟩

set_option maxRecDepth 100000 in
set_option maxHeartbeats 1000000 in
theorem rText_any (a b : Int) (N : Nat) (w : World) (h : IsV a b N) :
    Calls Try.prog 22 #[.agg #[.int .u64 a, .int .u64 b]] w fun e w' => e = .returned (.string (strB (textL N))) ∧ Below w.heap.size w w' := by
  have HN : Hid (N < B64 * B64) := h.lt
  go_enter Try.func22, Try.ntmps22
  go_wp2
  go_loopw [4, 5] (TRel w a b N) (fun _ t _ => (intOf t + 1).toNat)
  case atStart =>
    refine ⟨.inr ⟨31, by omega, rfl, ?_⟩, below1 _ _, Box.new _ _ _⟩
    have : preL N 32 = [] := by
      unfold preL
      rw [if_pos (Nat.div_eq_of_lt (by rw [show (16 : Nat) ^ 32 = B64 * B64 by decide]; exact HN.out))]
    rw [this]; rfl
  case round =>
    obtain ⟨hcase, hB, X⟩ := hrel
    rcases hcase with ⟨rfl, rfl⟩ | ⟨m, hm, rfl, rfl⟩
    · go_wp2
      go_ret
      exact ⟨rfl, hB⟩
    · have hdm : decide (0 ≤ (m : Int)) = true := by simp
      have e0 : ((4 : Int) * (m : Int)).toNat = 4 * m := by omega
      have e1 : ((4 : Int) * (m : Int) + 1).toNat = 4 * m + 1 := by omega
      have e2 : ((4 : Int) * (m : Int) + 2).toNat = 4 * m + 2 := by omega
      have e3 : ((4 : Int) * (m : Int) + 3).toNat = 4 * m + 3 := by omega
      have q0 := bitN_lt N (4 * m)
      have q1 := bitN_lt N (4 * m + 1)
      have q2 := bitN_lt N (4 * m + 2)
      have q3 := bitN_lt N (4 * m + 3)
      have f0 : IntKind.i64.wrap (4 * (m : Int)) = 4 * (m : Int) := wrap_small (by omega) (by omega)
      have f1 : IntKind.i64.wrap (4 * (m : Int) + 1) = 4 * (m : Int) + 1 := wrap_small (by omega) (by omega)
      have f2 : IntKind.i64.wrap (4 * (m : Int) + 2) = 4 * (m : Int) + 2 := wrap_small (by omega) (by omega)
      have f3 : IntKind.i64.wrap (4 * (m : Int) + 3) = 4 * (m : Int) + 3 := wrap_small (by omega) (by omega)
      have g1 : IntKind.i64.wrap (2 * (bitN N (4 * m + 1) : Int)) = 2 * (bitN N (4 * m + 1) : Int) := wrap_small (by omega) (by omega)
      have g2 : IntKind.i64.wrap ((bitN N (4 * m) : Int) + 2 * (bitN N (4 * m + 1) : Int)) = (bitN N (4 * m) : Int) + 2 * (bitN N (4 * m + 1) : Int) := wrap_small (by omega) (by omega)
      have g3 : IntKind.i64.wrap (4 * (bitN N (4 * m + 2) : Int)) = 4 * (bitN N (4 * m + 2) : Int) := wrap_small (by omega) (by omega)
      have g4 : IntKind.i64.wrap ((bitN N (4 * m) : Int) + 2 * (bitN N (4 * m + 1) : Int) + 4 * (bitN N (4 * m + 2) : Int)) = (bitN N (4 * m) : Int) + 2 * (bitN N (4 * m + 1) : Int) + 4 * (bitN N (4 * m + 2) : Int) := wrap_small (by omega) (by omega)
      have g5 : IntKind.i64.wrap (8 * (bitN N (4 * m + 3) : Int)) = 8 * (bitN N (4 * m + 3) : Int) := wrap_small (by omega) (by omega)
      have g6 : IntKind.i64.wrap ((bitN N (4 * m) : Int) + 2 * (bitN N (4 * m + 1) : Int) + 4 * (bitN N (4 * m + 2) : Int) + 8 * (bitN N (4 * m + 3) : Int)) = (bitN N (4 * m) : Int) + 2 * (bitN N (4 * m + 1) : Int) + 4 * (bitN N (4 * m + 2) : Int) + 8 * (bitN N (4 * m + 3) : Int) := wrap_small (by omega) (by omega)
      have HD : Hid (bitN N (4 * m) + 2 * bitN N (4 * m + 1) + 4 * bitN N (4 * m + 2) + 8 * bitN N (4 * m + 3) = N / 16 ^ m % 16) := digit_bits N m
      have hC : Hid (∀ w' : World, Below wr.heap.size wr w' → (w'.cell? ⟨w.heap.size, 0, none⟩ = some (.int .u64 a) ∧ w'.cell? ⟨w.heap.size, 1, none⟩ = some (.int .u64 b)) ∧ Below wr.heap.size wr w') := fun w' h => ⟨⟨cell_later h X.1, cell_later h X.2⟩, h⟩
      go_upto_region 6 with fail
      go_cut [6] (fun s w' => s = .int .i64 ((N / 16 ^ m % 16 : Nat) : Int) ∧ Below wr.heap.size wr w')
      case first =>
        go_region_held3 (fun w' => (w'.cell? ⟨w.heap.size, 0, none⟩ = some (.int .u64 a) ∧ w'.cell? ⟨w.heap.size, 1, none⟩ = some (.int .u64 b)) ∧ Below wr.heap.size wr w') (first | exact hC.out _ (Below.refl _ _).drew | exact hC.out _ (keep_call hb (Nat.le_refl _) (by assumption))) (first | (go_at_call 34; refine (bit_int _ _ _ _ _ h (by omega) (by omega)).mono ?_; rintro e w1 ⟨rfl, hb⟩; (first | rw [e0] | rw [e1] | rw [e2] | rw [e3])))
        go_wp2_with fail
        go_meet
        case rel => exact ⟨val_eq (by rw [← HD.out]; omega), And.right (by assumption)⟩
      case rest =>
        obtain ⟨rfl, hbc⟩ := hcut
        replace hB := below_call hB hbc
        replace X := X.later hbc
        clear hC HD q0 q1 q2 q3 e0 e1 e2 e3 f0 f1 f2 f3 g1 g2 g3 g4 g5 g6 hbc
        have hVl : N / 16 ^ m % 16 < 16 := Nat.mod_lt _ (by omega)
        have hPl : (strB (preL N (m + 1))).size ≤ 32 := by rw [strB_size]; exact pre_len HN.out _
        have HP0 : Hid ((strB (preL N (m + 1))).toList = [] ↔ preL N (m + 1) = []) := strB_nil
        have HS : Hid (strB (preL N (m + 1)) ++ (({ data := #[48, 49, 50, 51, 52, 53, 54, 55, 56, 57, 97, 98, 99, 100, 101, 102] } : ByteArray).extract (N / 16 ^ m % 16) (N / 16 ^ m % 16 + 1)) = strB (preL N (m + 1) ++ [hexC (N / 16 ^ m % 16)])) := strB_hex _ _ hVl
        have HT0 : Hid (m = 0 → strB (preL N (m + 1) ++ [hexC (N / 16 ^ m % 16)]) = strB (textL N)) := by
          intro e
          subst e
          rw [Nat.pow_zero, Nat.div_one, text_snoc HN.out]
        by_cases hz : N / 16 ^ m = 0
        · obtain ⟨z1, z2, z3⟩ := pre_zero hz
          have hpe : (strB (preL N (m + 1))).toList = [] := HP0.out.2 z2
          have HZ : Hid (strB (preL N (m + 1)) = strB (preL N m)) := by unfold Hid; rw [z1, z2]
          have hVp : ¬ (0 : Int) < ((N / 16 ^ m % 16 : Nat) : Int) := by omega
          have hV1 : ((N / 16 ^ m % 16 : Nat) : Int) ≤ 0 := by omega
          by_cases hm0 : m = 0
          · have hm1 : ((m : Int) == 0) = true := by simpa using hm0
            have HM : Hid (m = 0) := hm0
            clear hm0 z1 z2 z3 hz HZ
            generalize strB (preL N (m + 1)) = P at *
            generalize N / 16 ^ m % 16 = V at *
            go_wp2
            obtain rfl : V = 0 := by omega
            exact trel_next hB X hm (fun _ => HS.out.trans (HT0.out HM.out)) (fun e => absurd HM.out e)
          · have hm1 : ((m : Int) == 0) = false := by simpa using hm0
            have HM : Hid (¬ m = 0) := hm0
            clear hm0 z1 z2 z3 hz
            generalize strB (preL N (m + 1)) = P at *
            generalize N / 16 ^ m % 16 = V at *
            go_wp2
            exact trel_next hB X hm (fun e => absurd e HM.out) (fun _ => HZ.out)
        · have HT : Hid (strB (preL N m) = strB (preL N (m + 1) ++ [hexC (N / 16 ^ m % 16)])) := by unfold Hid; rw [pre_snoc HN.out hz]
          by_cases hV0 : N / 16 ^ m % 16 = 0
          · have hpe := mt HP0.out.1 (pre_ne HN.out hz hV0)
            have hVp : ¬ (0 : Int) < ((N / 16 ^ m % 16 : Nat) : Int) := by omega
            clear hz hV0
            generalize strB (preL N (m + 1)) = P at *
            generalize N / 16 ^ m % 16 = V at *
            go_wp2
            obtain rfl : V = 0 := by omega
            exact trel_next hB X hm (fun e => HS.out.trans (HT0.out e)) (fun _ => HS.out.trans HT.out.symm)
          · have hVp : (0 : Int) < ((N / 16 ^ m % 16 : Nat) : Int) := by omega
            clear hz hV0
            generalize strB (preL N (m + 1)) = P at *
            generalize N / 16 ^ m % 16 = V at *
            go_wp2
            exact trel_next hB X hm (fun e => by rw [HS.out, HT0.out e]) (fun _ => by rw [HS.out, HT.out])
end Go.Proofs.Ytcafmhlnfkgegaa
