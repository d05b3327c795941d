import Derived.Test.YtaffgoacbiedlaaVA
import Derived.Test.YtaffgoacbiedlaaVB
import Derived.Test.YtaffgoacbiedlaaVC
import Derived.Test.YtaffgoacbiedlaaVD
import Derived.Test.YtaffgoacbiedlaaVE
import Derived.Test.YtaffgoacbiedlaaS1
import Derived.Test.YtaffgoacbiedlaaU0
import Derived.Test.YtaffgoacbiedlaaU4
import Derived.Test.YtaffgoacbiedlaaV0
import Derived.Test.YtaffgoacbiedlaaS4
namespace Go.Proofs.Ytaffgoacbiedlaa
open Go.RowKit
set_option linter.unusedVariables false
set_option linter.unusedSimpArgs false

def RaP (op : Int) (r : Rp) (w : World) (e : Ending) (w' : World) : Prop :=
  ((rfm op r = true ∧ ∃ a n c', e = .returned (.tuple #[.slice a n c', .int .i64 0]) ∧ Own w' w.heap.size a n c' (rly op r)) ∨ (rfm op r = false ∧ e = .returned (.tuple #[.slice none 0 0, .int .i64 1]))) ∧ Below w.heap.size w w'
theorem ra_bad {op : Int} {r : Rp} {w : World} {f : FuncId} {args : Array Value} (hf : rfm op r = false) (h : Calls Try.prog f args w fun e w' => e = .returned (.tuple #[.slice none 0 0, .int .i64 1]) ∧ Below w.heap.size w w') : Calls Try.prog f args w (RaP op r w) :=
  h.mono fun e w' ⟨he, hb⟩ => ⟨.inr ⟨hf, he⟩, hb⟩
theorem ra_ok {op : Int} {r : Rp} {w : World} {f : FuncId} {args : Array Value} {B : List Nat} (hf : rfm op r = true) (hB : B = rly op r) (h : Calls Try.prog f args w fun e w' => ∃ a n c', e = .returned (.tuple #[.slice a n c', .int .i64 0]) ∧ Own w' w.heap.size a n c' B ∧ Below w.heap.size w w') : Calls Try.prog f args w (RaP op r w) := by
  subst hB
  exact h.mono fun e w' ⟨a, n, c', he, ho, hb⟩ => ⟨.inl ⟨hf, a, n, c', he, ho⟩, hb⟩
theorem cEq_z (obj : Int) (hi lo : Nat) : cEq obj (hi : Int) (lo : Int) 0 0 0 = decide (obj = 0 ∧ hi = 0 ∧ lo = 0) := by
  unfold cEq
  congr 1
  simp
theorem raN0a (code obj number : Int) (hi lo : Nat) (da : Option Addr) (dn dc : Nat) (D : List Nat) (w : World) (hD : Row w da dn dc D) (hc : ¬ code = 0) : Calls Try.prog 21 #[.int .i64 0, .agg #[.int .i64 code, .int .i64 obj, .int .u64 (hi : Int), .int .u64 (lo : Int), .slice da dn dc, .int .i64 number]] w (RaP 0 ⟨code, obj, hi, lo, D, number⟩ w) := by
  have hl := hD.len
  have hcb : (code == 0) = false := by simpa using hc
  have hr : rfm 0 ⟨code, obj, hi, lo, D, number⟩ = (wi code 0 65535 && tnB ⟨code, obj, hi, lo, D, number⟩) := by
    unfold rfm
    rw [if_neg hc, show wi 0 0 10 = true from rfl, Bool.true_and]
  cases hw1 : wi code 0 65535 with
  | false => exact ra_bad (by rw [hr, hw1]; rfl) (raN0w code obj hi lo da dn dc number w hw1 hcb)
  | true =>
    by_cases hcap : obj = 0 ∧ hi = 0 ∧ lo = 0
    · obtain ⟨rfl, rfl, rfl⟩ := hcap
      by_cases hd : 0 < dn
      · exact ra_bad (by rw [hr]; unfold tnB; rw [decide_eq_false (show ¬ D.length = 0 by omega)]; simp) (raN0d code da dn dc number w hw1 hd hcb)
      · by_cases hn : number = 0
        · subst hn
          obtain rfl : D = [] := List.eq_nil_of_length_eq_zero (by omega)
          refine ra_ok (by rw [hr, hw1]; rfl) ?_ (raN0g code da dn dc w hw1 (by omega) hcb)
          rw [rly_nz hc, ← beL_nat]
          congr 1
          have := wi_iff.1 hw1
          show code = (code.toNat : Int)
          omega
        · exact ra_bad (by rw [hr]; simp [tnB, hn]) (raN0n code da dn dc number w hw1 (by omega) hcb (by simpa using hn))
    · exact ra_bad (by rw [hr]; simp [tnB, hcap]) (raN0c code obj hi lo da dn dc number w hw1 hcb (by rw [cEq_z]; exact decide_eq_false hcap))
theorem raN1a (code obj number : Int) (hi lo : Nat) (da : Option Addr) (dn dc : Nat) (D : List Nat) (w : World) (hD : Row w da dn dc D) (hc : ¬ code = 0) : Calls Try.prog 21 #[.int .i64 1, .agg #[.int .i64 code, .int .i64 obj, .int .u64 (hi : Int), .int .u64 (lo : Int), .slice da dn dc, .int .i64 number]] w (RaP 1 ⟨code, obj, hi, lo, D, number⟩ w) := by
  have hl := hD.len
  have hcb : (code == 0) = false := by simpa using hc
  have hr : rfm 1 ⟨code, obj, hi, lo, D, number⟩ = (wi code 0 65535 && tnB ⟨code, obj, hi, lo, D, number⟩) := by
    unfold rfm
    rw [if_neg hc, show wi 1 0 10 = true from rfl, Bool.true_and]
  cases hw1 : wi code 0 65535 with
  | false => exact ra_bad (by rw [hr, hw1]; rfl) (raN1w code obj hi lo da dn dc number w hw1 hcb)
  | true =>
    by_cases hcap : obj = 0 ∧ hi = 0 ∧ lo = 0
    · obtain ⟨rfl, rfl, rfl⟩ := hcap
      by_cases hd : 0 < dn
      · exact ra_bad (by rw [hr]; unfold tnB; rw [decide_eq_false (show ¬ D.length = 0 by omega)]; simp) (raN1d code da dn dc number w hw1 hd hcb)
      · by_cases hn : number = 0
        · subst hn
          obtain rfl : D = [] := List.eq_nil_of_length_eq_zero (by omega)
          refine ra_ok (by rw [hr, hw1]; rfl) ?_ (raN1g code da dn dc w hw1 (by omega) hcb)
          rw [rly_nz hc, ← beL_nat]
          congr 1
          have := wi_iff.1 hw1
          show code = (code.toNat : Int)
          omega
        · exact ra_bad (by rw [hr]; simp [tnB, hn]) (raN1n code da dn dc number w hw1 (by omega) hcb (by simpa using hn))
    · exact ra_bad (by rw [hr]; simp [tnB, hcap]) (raN1c code obj hi lo da dn dc number w hw1 hcb (by rw [cEq_z]; exact decide_eq_false hcap))
theorem raN3a (code obj number : Int) (hi lo : Nat) (da : Option Addr) (dn dc : Nat) (D : List Nat) (w : World) (hD : Row w da dn dc D) (hc : ¬ code = 0) : Calls Try.prog 21 #[.int .i64 3, .agg #[.int .i64 code, .int .i64 obj, .int .u64 (hi : Int), .int .u64 (lo : Int), .slice da dn dc, .int .i64 number]] w (RaP 3 ⟨code, obj, hi, lo, D, number⟩ w) := by
  have hl := hD.len
  have hcb : (code == 0) = false := by simpa using hc
  have hr : rfm 3 ⟨code, obj, hi, lo, D, number⟩ = (wi code 0 65535 && tnB ⟨code, obj, hi, lo, D, number⟩) := by
    unfold rfm
    rw [if_neg hc, show wi 3 0 10 = true from rfl, Bool.true_and]
  cases hw1 : wi code 0 65535 with
  | false => exact ra_bad (by rw [hr, hw1]; rfl) (raN3w code obj hi lo da dn dc number w hw1 hcb)
  | true =>
    by_cases hcap : obj = 0 ∧ hi = 0 ∧ lo = 0
    · obtain ⟨rfl, rfl, rfl⟩ := hcap
      by_cases hd : 0 < dn
      · exact ra_bad (by rw [hr]; unfold tnB; rw [decide_eq_false (show ¬ D.length = 0 by omega)]; simp) (raN3d code da dn dc number w hw1 hd hcb)
      · by_cases hn : number = 0
        · subst hn
          obtain rfl : D = [] := List.eq_nil_of_length_eq_zero (by omega)
          refine ra_ok (by rw [hr, hw1]; rfl) ?_ (raN3g code da dn dc w hw1 (by omega) hcb)
          rw [rly_nz hc, ← beL_nat]
          congr 1
          have := wi_iff.1 hw1
          show code = (code.toNat : Int)
          omega
        · exact ra_bad (by rw [hr]; simp [tnB, hn]) (raN3n code da dn dc number w hw1 (by omega) hcb (by simpa using hn))
    · exact ra_bad (by rw [hr]; simp [tnB, hcap]) (raN3c code obj hi lo da dn dc number w hw1 hcb (by rw [cEq_z]; exact decide_eq_false hcap))
theorem raN5a (code obj number : Int) (hi lo : Nat) (da : Option Addr) (dn dc : Nat) (D : List Nat) (w : World) (hD : Row w da dn dc D) (hc : ¬ code = 0) : Calls Try.prog 21 #[.int .i64 5, .agg #[.int .i64 code, .int .i64 obj, .int .u64 (hi : Int), .int .u64 (lo : Int), .slice da dn dc, .int .i64 number]] w (RaP 5 ⟨code, obj, hi, lo, D, number⟩ w) := by
  have hl := hD.len
  have hcb : (code == 0) = false := by simpa using hc
  have hr : rfm 5 ⟨code, obj, hi, lo, D, number⟩ = (wi code 0 65535 && tnB ⟨code, obj, hi, lo, D, number⟩) := by
    unfold rfm
    rw [if_neg hc, show wi 5 0 10 = true from rfl, Bool.true_and]
  cases hw1 : wi code 0 65535 with
  | false => exact ra_bad (by rw [hr, hw1]; rfl) (raN5w code obj hi lo da dn dc number w hw1 hcb)
  | true =>
    by_cases hcap : obj = 0 ∧ hi = 0 ∧ lo = 0
    · obtain ⟨rfl, rfl, rfl⟩ := hcap
      by_cases hd : 0 < dn
      · exact ra_bad (by rw [hr]; unfold tnB; rw [decide_eq_false (show ¬ D.length = 0 by omega)]; simp) (raN5d code da dn dc number w hw1 hd hcb)
      · by_cases hn : number = 0
        · subst hn
          obtain rfl : D = [] := List.eq_nil_of_length_eq_zero (by omega)
          refine ra_ok (by rw [hr, hw1]; rfl) ?_ (raN5g code da dn dc w hw1 (by omega) hcb)
          rw [rly_nz hc, ← beL_nat]
          congr 1
          have := wi_iff.1 hw1
          show code = (code.toNat : Int)
          omega
        · exact ra_bad (by rw [hr]; simp [tnB, hn]) (raN5n code da dn dc number w hw1 (by omega) hcb (by simpa using hn))
    · exact ra_bad (by rw [hr]; simp [tnB, hcap]) (raN5c code obj hi lo da dn dc number w hw1 hcb (by rw [cEq_z]; exact decide_eq_false hcap))
theorem raN9a (code obj number : Int) (hi lo : Nat) (da : Option Addr) (dn dc : Nat) (D : List Nat) (w : World) (hD : Row w da dn dc D) (hc : ¬ code = 0) : Calls Try.prog 21 #[.int .i64 9, .agg #[.int .i64 code, .int .i64 obj, .int .u64 (hi : Int), .int .u64 (lo : Int), .slice da dn dc, .int .i64 number]] w (RaP 9 ⟨code, obj, hi, lo, D, number⟩ w) := by
  have hl := hD.len
  have hcb : (code == 0) = false := by simpa using hc
  have hr : rfm 9 ⟨code, obj, hi, lo, D, number⟩ = (wi code 0 65535 && tnB ⟨code, obj, hi, lo, D, number⟩) := by
    unfold rfm
    rw [if_neg hc, show wi 9 0 10 = true from rfl, Bool.true_and]
  cases hw1 : wi code 0 65535 with
  | false => exact ra_bad (by rw [hr, hw1]; rfl) (raN9w code obj hi lo da dn dc number w hw1 hcb)
  | true =>
    by_cases hcap : obj = 0 ∧ hi = 0 ∧ lo = 0
    · obtain ⟨rfl, rfl, rfl⟩ := hcap
      by_cases hd : 0 < dn
      · exact ra_bad (by rw [hr]; unfold tnB; rw [decide_eq_false (show ¬ D.length = 0 by omega)]; simp) (raN9d code da dn dc number w hw1 hd hcb)
      · by_cases hn : number = 0
        · subst hn
          obtain rfl : D = [] := List.eq_nil_of_length_eq_zero (by omega)
          refine ra_ok (by rw [hr, hw1]; rfl) ?_ (raN9g code da dn dc w hw1 (by omega) hcb)
          rw [rly_nz hc, ← beL_nat]
          congr 1
          have := wi_iff.1 hw1
          show code = (code.toNat : Int)
          omega
        · exact ra_bad (by rw [hr]; simp [tnB, hn]) (raN9n code da dn dc number w hw1 (by omega) hcb (by simpa using hn))
    · exact ra_bad (by rw [hr]; simp [tnB, hcap]) (raN9c code obj hi lo da dn dc number w hw1 hcb (by rw [cEq_z]; exact decide_eq_false hcap))
theorem raNxa (code obj number : Int) (hi lo : Nat) (da : Option Addr) (dn dc : Nat) (D : List Nat) (w : World) (hD : Row w da dn dc D) (hc : ¬ code = 0) (op : Int) (hw : wi op 0 10 = true) (n0 : ¬ op = 0) (n1 : ¬ op = 1) (n3 : ¬ op = 3) (n5 : ¬ op = 5) (n9 : ¬ op = 9) : Calls Try.prog 21 #[.int .i64 op, .agg #[.int .i64 code, .int .i64 obj, .int .u64 (hi : Int), .int .u64 (lo : Int), .slice da dn dc, .int .i64 number]] w (RaP op ⟨code, obj, hi, lo, D, number⟩ w) := by
  have hl := hD.len
  have hcb : (code == 0) = false := by simpa using hc
  have hr : rfm op ⟨code, obj, hi, lo, D, number⟩ = (wi code 0 65535 && tnB ⟨code, obj, hi, lo, D, number⟩) := by
    unfold rfm
    rw [if_neg hc, show wi op 0 10 = true from hw, Bool.true_and]
  cases hw1 : wi code 0 65535 with
  | false => exact ra_bad (by rw [hr, hw1]; rfl) (raNxw op code obj hi lo da dn dc number w hw hw1 (by simpa using n0) (by simpa using n1) (by simpa using n3) (by simpa using n5) (by simpa using n9) (by simpa using n5) (by simpa using n9) hcb)
  | true =>
    by_cases hcap : obj = 0 ∧ hi = 0 ∧ lo = 0
    · obtain ⟨rfl, rfl, rfl⟩ := hcap
      by_cases hd : 0 < dn
      · exact ra_bad (by rw [hr]; unfold tnB; rw [decide_eq_false (show ¬ D.length = 0 by omega)]; simp) (raNxd op code da dn dc number w hw hw1 hd (by simpa using n0) (by simpa using n1) (by simpa using n3) (by simpa using n5) (by simpa using n9) (by simpa using n5) (by simpa using n9) hcb)
      · by_cases hn : number = 0
        · subst hn
          obtain rfl : D = [] := List.eq_nil_of_length_eq_zero (by omega)
          refine ra_ok (by rw [hr, hw1]; rfl) ?_ (raNxg op code da dn dc w hw hw1 (by omega) (by simpa using n0) (by simpa using n1) (by simpa using n3) (by simpa using n5) (by simpa using n9) (by simpa using n5) (by simpa using n9) hcb)
          rw [rly_nz hc, ← beL_nat]
          congr 1
          have := wi_iff.1 hw1
          show code = (code.toNat : Int)
          omega
        · exact ra_bad (by rw [hr]; simp [tnB, hn]) (raNxn op code da dn dc number w hw hw1 (by omega) (by simpa using n0) (by simpa using n1) (by simpa using n3) (by simpa using n5) (by simpa using n9) (by simpa using n5) (by simpa using n9) hcb (by simpa using hn))
    · exact ra_bad (by rw [hr]; simp [tnB, hcap]) (raNxc op code obj hi lo da dn dc number w hw hw1 (by simpa using n0) (by simpa using n1) (by simpa using n3) (by simpa using n5) (by simpa using n9) (by simpa using n5) (by simpa using n9) hcb (by rw [cEq_z]; exact decide_eq_false hcap))
theorem raZ1a (obj number : Int) (hi lo : Nat) (da : Option Addr) (dn dc : Nat) (D : List Nat) (w : World) (hD : Row w da dn dc D) (h1 : hi < 18446744073709551616) (h2 : lo < 18446744073709551616) : Calls Try.prog 21 #[.int .i64 1, .agg #[.int .i64 0, .int .i64 obj, .int .u64 (hi : Int), .int .u64 (lo : Int), .slice da dn dc, .int .i64 number]] w (RaP 1 ⟨0, obj, hi, lo, D, number⟩ w) := by
  have hl := hD.len
  have hr : rfm 1 ⟨0, obj, hi, lo, D, number⟩ = (wi obj 0 4611686018427387904 && wi number 0 65535 && decide (D.length ≤ 1024) && (decide (D.length = 0) && decide (number = 0))) := by
    simp [rfm, unt, tnB, wi]
  by_cases hcap : obj = 0 ∧ hi = 0 ∧ lo = 0
  · obtain ⟨rfl, rfl, rfl⟩ := hcap
    by_cases hd : 0 < dn
    · exact ra_bad (by rw [hr, decide_eq_false (show ¬ D.length = 0 by omega)]; simp) (raZ1zd da dn dc number w hd)
    · by_cases hn : number = 0
      · subst hn
        obtain rfl : D = [] := List.eq_nil_of_length_eq_zero (by omega)
        exact ra_ok (by rw [hr]; rfl) (by rw [rly_z rfl, told_c _ (by omega), ← beL_nat 0 2]; rfl) (raZ1zg da dn dc w (by omega))
      · exact ra_bad (by rw [hr, decide_eq_false hn]; simp) (raZ1zn da dn dc number w (by omega) (by simpa using hn))
  · have hce : cEq obj (hi : Int) (lo : Int) 0 0 0 = false := by rw [cEq_z]; exact decide_eq_false hcap
    by_cases hd : 0 < dn
    · exact ra_bad (by rw [hr, decide_eq_false (show ¬ D.length = 0 by omega)]; simp) (raZ1vd obj hi lo da dn dc number w hd hce)
    · by_cases hn : number = 0
      · subst hn
        obtain rfl : D = [] := List.eq_nil_of_length_eq_zero (by omega)
        cases hwo : wi obj 0 4611686018427387904 with
        | false => exact ra_bad (by rw [hr, hwo]; rfl) (raZ1vo obj hi lo da dn dc w (by omega) hwo hce)
        | true =>
          have := wi_iff.1 hwo
          obtain ⟨q, rfl⟩ : ∃ q : Nat, obj = (q : Int) := ⟨obj.toNat, by omega⟩
          exact ra_ok (by rw [hr, hwo]; rfl) (by rw [rly_z rfl, told_c _ (by omega), ← beL_nat 0 2]; rfl) (raZ1vg q hi lo da dn dc w (by omega) hwo hce h1 h2)
      · exact ra_bad (by rw [hr, decide_eq_false hn]; simp) (raZ1vn obj hi lo da dn dc number w (by omega) hce (by simpa using hn))
theorem raZ3a (obj number : Int) (hi lo : Nat) (da : Option Addr) (dn dc : Nat) (D : List Nat) (w : World) (hD : Row w da dn dc D) (h1 : hi < 18446744073709551616) (h2 : lo < 18446744073709551616) : Calls Try.prog 21 #[.int .i64 3, .agg #[.int .i64 0, .int .i64 obj, .int .u64 (hi : Int), .int .u64 (lo : Int), .slice da dn dc, .int .i64 number]] w (RaP 3 ⟨0, obj, hi, lo, D, number⟩ w) := by
  have hl := hD.len
  have hr : rfm 3 ⟨0, obj, hi, lo, D, number⟩ = (wi obj 0 4611686018427387904 && wi number 0 65535 && decide (D.length ≤ 1024) && (decide (D.length = 0) && decide (number = 0))) := by
    simp [rfm, unt, tnB, wi]
  by_cases hcap : obj = 0 ∧ hi = 0 ∧ lo = 0
  · obtain ⟨rfl, rfl, rfl⟩ := hcap
    by_cases hd : 0 < dn
    · exact ra_bad (by rw [hr, decide_eq_false (show ¬ D.length = 0 by omega)]; simp) (raZ3zd da dn dc number w hd)
    · by_cases hn : number = 0
      · subst hn
        obtain rfl : D = [] := List.eq_nil_of_length_eq_zero (by omega)
        exact ra_ok (by rw [hr]; rfl) (by rw [rly_z rfl, told_c _ (by omega), ← beL_nat 0 2]; rfl) (raZ3zg da dn dc w (by omega))
      · exact ra_bad (by rw [hr, decide_eq_false hn]; simp) (raZ3zn da dn dc number w (by omega) (by simpa using hn))
  · have hce : cEq obj (hi : Int) (lo : Int) 0 0 0 = false := by rw [cEq_z]; exact decide_eq_false hcap
    by_cases hd : 0 < dn
    · exact ra_bad (by rw [hr, decide_eq_false (show ¬ D.length = 0 by omega)]; simp) (raZ3vd obj hi lo da dn dc number w hd hce)
    · by_cases hn : number = 0
      · subst hn
        obtain rfl : D = [] := List.eq_nil_of_length_eq_zero (by omega)
        cases hwo : wi obj 0 4611686018427387904 with
        | false => exact ra_bad (by rw [hr, hwo]; rfl) (raZ3vo obj hi lo da dn dc w (by omega) hwo hce)
        | true =>
          have := wi_iff.1 hwo
          obtain ⟨q, rfl⟩ : ∃ q : Nat, obj = (q : Int) := ⟨obj.toNat, by omega⟩
          exact ra_ok (by rw [hr, hwo]; rfl) (by rw [rly_z rfl, told_c _ (by omega), ← beL_nat 0 2]; rfl) (raZ3vg q hi lo da dn dc w (by omega) hwo hce h1 h2)
      · exact ra_bad (by rw [hr, decide_eq_false hn]; simp) (raZ3vn obj hi lo da dn dc number w (by omega) hce (by simpa using hn))
theorem raZ5a (obj number : Int) (hi lo : Nat) (da : Option Addr) (dn dc : Nat) (D : List Nat) (w : World) (hD : Row w da dn dc D) (h1 : hi < 18446744073709551616) (h2 : lo < 18446744073709551616) : Calls Try.prog 21 #[.int .i64 5, .agg #[.int .i64 0, .int .i64 obj, .int .u64 (hi : Int), .int .u64 (lo : Int), .slice da dn dc, .int .i64 number]] w (RaP 5 ⟨0, obj, hi, lo, D, number⟩ w) := by
  have hl := hD.len
  have hr : rfm 5 ⟨0, obj, hi, lo, D, number⟩ = (wi obj 0 4611686018427387904 && wi number 0 65535 && decide (D.length ≤ 1024) && (decide (obj = 0 ∧ hi = 0 ∧ lo = 0) && decide (number = 0))) := by
    simp [rfm, unt, tnB, wi]
  by_cases hcap : obj = 0 ∧ hi = 0 ∧ lo = 0
  · obtain ⟨rfl, rfl, rfl⟩ := hcap
    by_cases hn : number = 0
    · subst hn
      by_cases hd : 0 < dn
      · by_cases hb : 1024 < dn
        · exact ra_bad (by rw [hr, decide_eq_false (show ¬ D.length ≤ 1024 by omega)]; simp) (raZ5l da dn dc w hb)
        · exact ra_ok (by rw [hr, decide_eq_true (show D.length ≤ 1024 by omega)]; rfl) (by rw [rly_z rfl, told_d _ rfl, ← beL_nat]; rfl) (raZ5gv da dn dc w hd (by omega) D hD)
      · exact ra_ok (by rw [hr, decide_eq_true (show D.length ≤ 1024 by omega)]; rfl) (by rw [rly_z rfl, told_d _ rfl, ← beL_nat]; rfl) (raZ5gz da dn dc w (by omega) D hD)
    · by_cases hd : 0 < dn
      · exact ra_bad (by rw [hr, decide_eq_false hn]; simp) (raZ5nv da dn dc number w hd (by simpa using hn))
      · exact ra_bad (by rw [hr, decide_eq_false hn]; simp) (raZ5nz da dn dc number w (by omega) (by simpa using hn))
  · exact ra_bad (by rw [hr, decide_eq_false hcap]; simp) (raZ5c obj hi lo da dn dc number w (by rw [cEq_z]; exact decide_eq_false hcap))
theorem raZ9a (obj number : Int) (hi lo : Nat) (da : Option Addr) (dn dc : Nat) (D : List Nat) (w : World) (hD : Row w da dn dc D) (h1 : hi < 18446744073709551616) (h2 : lo < 18446744073709551616) : Calls Try.prog 21 #[.int .i64 9, .agg #[.int .i64 0, .int .i64 obj, .int .u64 (hi : Int), .int .u64 (lo : Int), .slice da dn dc, .int .i64 number]] w (RaP 9 ⟨0, obj, hi, lo, D, number⟩ w) := by
  have hl := hD.len
  have hr : rfm 9 ⟨0, obj, hi, lo, D, number⟩ = (wi obj 0 4611686018427387904 && wi number 0 65535 && decide (D.length ≤ 1024) && (decide (obj = 0 ∧ hi = 0 ∧ lo = 0) && decide (D.length = 0))) := by
    simp [rfm, unt, tnB, wi]
  by_cases hcap : obj = 0 ∧ hi = 0 ∧ lo = 0
  · obtain ⟨rfl, rfl, rfl⟩ := hcap
    by_cases hd : 0 < dn
    · exact ra_bad (by rw [hr, decide_eq_false (show ¬ D.length = 0 by omega)]; simp) (raZ9d da dn dc number w hd)
    · obtain rfl : D = [] := List.eq_nil_of_length_eq_zero (by omega)
      by_cases hn : number = 0
      · subst hn
        exact ra_ok (by rw [hr]; rfl) (by rw [rly_z rfl, told_n _ rfl, ← beL_nat, ← beL_nat]; rfl) (raZ9gz da dn dc w (by omega))
      · cases hwn : wi number 0 65535 with
        | false => exact ra_bad (by rw [hr, hwn]; simp) (raZ9n da dn dc number w (by omega) hwn (by simpa using hn))
        | true =>
          have := wi_iff.1 hwn
          obtain ⟨q, rfl⟩ : ∃ q : Nat, number = (q : Int) := ⟨number.toNat, by omega⟩
          exact ra_ok (by rw [hr, hwn]; rfl) (by rw [rly_z rfl, told_n _ rfl, ← beL_nat, ← beL_nat]; rfl) (raZ9gv da dn dc q w (by omega) hwn (by simpa using hn))
  · exact ra_bad (by rw [hr, decide_eq_false hcap]; simp) (raZ9c obj hi lo da dn dc number w (by rw [cEq_z]; exact decide_eq_false hcap))
theorem raZxa (obj number : Int) (hi lo : Nat) (da : Option Addr) (dn dc : Nat) (D : List Nat) (w : World) (hD : Row w da dn dc D) (h1 : hi < 18446744073709551616) (h2 : lo < 18446744073709551616) (op : Int) (hw : wi op 0 10 = true) (n0 : ¬ op = 0) (n1 : ¬ op = 1) (n3 : ¬ op = 3) (n5 : ¬ op = 5) (n9 : ¬ op = 9) : Calls Try.prog 21 #[.int .i64 op, .agg #[.int .i64 0, .int .i64 obj, .int .u64 (hi : Int), .int .u64 (lo : Int), .slice da dn dc, .int .i64 number]] w (RaP op ⟨0, obj, hi, lo, D, number⟩ w) := by
  have hl := hD.len
  have hr : rfm op ⟨0, obj, hi, lo, D, number⟩ = (wi obj 0 4611686018427387904 && wi number 0 65535 && decide (D.length ≤ 1024) && (decide (obj = 0 ∧ hi = 0 ∧ lo = 0) && decide (D.length = 0) && decide (number = 0))) := by
    unfold rfm unt
    rw [if_pos rfl, if_neg (by omega), if_neg n5, if_neg n9, hw, decide_eq_true n0]
    rfl
  have ht := told_0 (op := op) ⟨0, obj, hi, lo, D, number⟩ (by omega) n5 n9
  by_cases hcap : obj = 0 ∧ hi = 0 ∧ lo = 0
  · obtain ⟨rfl, rfl, rfl⟩ := hcap
    by_cases hd : 0 < dn
    · exact ra_bad (by rw [hr, decide_eq_false (show ¬ D.length = 0 by omega)]; simp) (raZxd op da dn dc number w hw hd (by simpa using n0) (by simpa using n1) (by simpa using n3) (by simpa using n5) (by simpa using n9) (by simpa using n5) (by simpa using n9))
    · by_cases hn : number = 0
      · subst hn
        obtain rfl : D = [] := List.eq_nil_of_length_eq_zero (by omega)
        exact ra_ok (by rw [hr]; rfl) (by rw [rly_z rfl, ht, ← beL_nat]; rfl) (raZxg op da dn dc w hw (by omega) (by simpa using n0) (by simpa using n1) (by simpa using n3) (by simpa using n5) (by simpa using n9) (by simpa using n5) (by simpa using n9))
      · exact ra_bad (by rw [hr, decide_eq_false hn]; simp) (raZxn op da dn dc number w hw (by omega) (by simpa using n0) (by simpa using n1) (by simpa using n3) (by simpa using n5) (by simpa using n9) (by simpa using n5) (by simpa using n9) (by simpa using hn))
  · exact ra_bad (by rw [hr, decide_eq_false hcap]; simp) (raZxc op obj hi lo da dn dc number w hw (by simpa using n0) (by simpa using n1) (by simpa using n3) (by simpa using n5) (by simpa using n9) (by simpa using n5) (by simpa using n9) (by rw [cEq_z]; exact decide_eq_false hcap))
theorem ranswer_any (op : Int) (L : List Value) (r : Rp) (w : World) (h : Rr w L r) : Calls Try.prog 21 #[.int .i64 op, .agg L.toArray] w (RaP op r w) := by
  obtain ⟨⟨da, dn, dc⟩, rfl, hD, h1, h2⟩ := h.ex
  obtain ⟨code, obj, hi, lo, D, number⟩ := r
  by_cases hc : code = 0
  · subst hc
    by_cases n0 : op = 0
    · subst n0
      exact ra_bad (by simp [rfm]) (raZ0 obj hi lo da dn dc number w)
    by_cases n1 : op = 1
    · subst n1; exact raZ1a obj number hi lo da dn dc D w hD h1 h2
    by_cases n3 : op = 3
    · subst n3; exact raZ3a obj number hi lo da dn dc D w hD h1 h2
    by_cases n5 : op = 5
    · subst n5; exact raZ5a obj number hi lo da dn dc D w hD h1 h2
    by_cases n9 : op = 9
    · subst n9; exact raZ9a obj number hi lo da dn dc D w hD h1 h2
    cases hw : wi op 0 10 with
    | true => exact raZxa obj number hi lo da dn dc D w hD h1 h2 op hw n0 n1 n3 n5 n9
    | false => exact ra_bad (by simp [rfm, hw]) (raXw op 0 obj hi lo da dn dc number w hw (by simpa using n0) (by simpa using n1) (by simpa using n3) (by simpa using n5) (by simpa using n9) (by simpa using n5) (by simpa using n9))
  · by_cases n0 : op = 0
    · subst n0; exact raN0a code obj number hi lo da dn dc D w hD hc
    by_cases n1 : op = 1
    · subst n1; exact raN1a code obj number hi lo da dn dc D w hD hc
    by_cases n3 : op = 3
    · subst n3; exact raN3a code obj number hi lo da dn dc D w hD hc
    by_cases n5 : op = 5
    · subst n5; exact raN5a code obj number hi lo da dn dc D w hD hc
    by_cases n9 : op = 9
    · subst n9; exact raN9a code obj number hi lo da dn dc D w hD hc
    cases hw : wi op 0 10 with
    | true => exact raNxa code obj number hi lo da dn dc D w hD hc op hw n0 n1 n3 n5 n9
    | false => exact ra_bad (by simp [rfm, hw]) (raXw op code obj hi lo da dn dc number w hw (by simpa using n0) (by simpa using n1) (by simpa using n3) (by simpa using n5) (by simpa using n9) (by simpa using n5) (by simpa using n9))
end Go.Proofs.Ytaffgoacbiedlaa
namespace Go.Proofs.Ytaffgoacbiedlaa
open Go.RowKit
set_option linter.unusedVariables false
set_option linter.unusedSimpArgs false

theorem zltr : (0 : Nat) < 18446744073709551616 := by omega
theorem by3 (w : World) (c : Int) : Bx ((w.alloc (Obj.cells #[.int .i64 0, .int .i64 0, .int .u64 0, .int .u64 0, .slice none 0 0, .int .i64 0] 30)).alloc (Obj.cells #[.int .i64 c, .int .i64 0, .int .u64 0, .int .u64 0, .slice none 0 0, .int .i64 0] 30)) (w.heap.size + 1) [.int .i64 c, .int .i64 0, .int .u64 0, .int .u64 0, .slice none 0 0, .int .i64 0] := by
  have := Bx.new (w.alloc (Obj.cells #[.int .i64 0, .int .i64 0, .int .u64 0, .int .u64 0, .slice none 0 0, .int .i64 0] 30)) [.int .i64 c, .int .i64 0, .int .u64 0, .int .u64 0, .slice none 0 0, .int .i64 0] 30
  simp at this
  exact this
theorem by2 (w : World) (c : Int) : Bx ((w.alloc (Obj.cells #[.int .i64 0, .int .i64 0, .int .u64 0, .int .u64 0, .slice none 0 0, .int .i64 0] 30)).alloc (Obj.cells #[.int .i64 c, .int .i64 0, .int .u64 0, .int .u64 0, .slice none 0 0, .int .i64 0] 30)) w.heap.size [.int .i64 0, .int .i64 0, .int .u64 0, .int .u64 0, .slice none 0 0, .int .i64 0] :=
  (Bx.new w [.int .i64 0, .int .i64 0, .int .u64 0, .int .u64 0, .slice none 0 0, .int .i64 0] 30).later (below1 _ _)
theorem ranswer_ok (op : Int) (L : List Value) (r : Rp) (w : World) (h : Rr w L r) (hf : rfm op r = true) :
    Calls Try.prog 21 #[.int .i64 op, .agg L.toArray] w fun e w' => ∃ a n c', e = .returned (.tuple #[.slice a n c', .int .i64 0]) ∧ Own w' w.heap.size a n c' (rly op r) ∧ Below w.heap.size w w' := by
  refine (ranswer_any op L r w h).mono ?_
  rintro e w' ⟨(⟨_, a, n, c, he, ho⟩ | ⟨hx, _⟩), hb⟩
  · exact ⟨a, n, c, he, ho, hb⟩
  · rw [hf] at hx; cases hx
theorem ranswer_bad (op : Int) (L : List Value) (r : Rp) (w : World) (h : Rr w L r) (hf : rfm op r = false) :
    Calls Try.prog 21 #[.int .i64 op, .agg L.toArray] w fun e w' => e = .returned (.tuple #[.slice none 0 0, .int .i64 1]) ∧ Below w.heap.size w w' := by
  refine (ranswer_any op L r w h).mono ?_
  rintro e w' ⟨(⟨hx, _⟩ | ⟨_, he⟩), hb⟩
  · rw [hf] at hx; cases hx
  · exact ⟨he, hb⟩
end Go.Proofs.Ytaffgoacbiedlaa
