import Derived.Test.YtaffgoacbiedlaaA3
namespace Go.Proofs.Ytaffgoacbiedlaa
set_option linter.unusedSimpArgs false

/-- A reply, by its fields. -/
structure Rp where
  code : Int
  obj : Int
  hi : Nat
  lo : Nat
  data : List Nat
  number : Int
def rpz (code : Int) : Rp := ⟨code, 0, 0, 0, [], 0⟩
def tnB (r : Rp) : Bool := decide (r.obj = 0 ∧ r.hi = 0 ∧ r.lo = 0) && decide (r.data.length = 0) && decide (r.number = 0)
theorem tnB_iff {r : Rp} : tnB r = true ↔ r = rpz r.code := by
  obtain ⟨code, obj, hi, lo, data, number⟩ := r
  simp only [tnB, rpz, Bool.and_eq_true, decide_eq_true_eq, List.length_eq_zero_iff, Rp.mk.injEq, true_and]
  constructor
  · rintro ⟨⟨⟨a, b, c⟩, d⟩, e⟩; exact ⟨a, b, c, d, e⟩
  · rintro ⟨a, b, c, d, e⟩; exact ⟨⟨⟨a, b, c⟩, d⟩, e⟩
def unt (op : Int) (r : Rp) : Rp := if op = 1 ∨ op = 3 then { r with obj := 0, hi := 0, lo := 0 } else if op = 5 then { r with data := [] } else if op = 9 then { r with number := 0 } else r
/-- Has a reply a form, as the answer to an op? -/
def rfm (op : Int) (r : Rp) : Bool := wi op 0 10 && wi r.code 0 65535 && (if r.code = 0 then decide (op ≠ 0) && wi r.obj 0 4611686018427387904 && wi r.number 0 65535 && decide (r.data.length ≤ 1024) && tnB (unt op r) else tnB r)
def told (op : Int) (r : Rp) : List Nat := if op = 1 ∨ op = 3 then leL r.obj.toNat 8 ++ leL r.lo 8 ++ leL r.hi 8 else if op = 5 then r.data else if op = 9 then leL r.number.toNat 2 else []
/-- A reply's bytes. -/
def rly (op : Int) (r : Rp) : List Nat := leL r.code.toNat 2 ++ (if r.code = 0 then told op r else [])
def rdR (op : Int) (R : List Nat) : Option (Rp × List Nat) :=
  match rdN 2 65535 R with
  | none => none
  | some (cd, R1) => if cd ≠ 0 then some (rpz cd, R1)
    else if op = 1 ∨ op = 3 then (if capE R1 = 0 then some (⟨0, (loV R1 : Int), hiV (R1.drop 8), loV (R1.drop 8), [], 0⟩, R1.drop 24) else none)
    else if op = 5 then some (⟨0, 0, 0, 0, R1.take (min R1.length 1024), 0⟩, R1.drop (min R1.length 1024))
    else if op = 9 then (match rdN 2 65535 R1 with | none => none | some (v, R2) => some (⟨0, 0, 0, 0, [], (v : Int)⟩, R2))
    else some (rpz 0, R1)
/-- The reply of bytes. -/
def psR (op : Int) (R : List Nat) : Option Rp := match rdR op R with | none => none | some (r, R') => if R' = [] ∧ rfm op r = true then some r else none
theorem capE_iff (R : List Nat) : capE R = 0 ↔ 24 ≤ R.length ∧ loV R ≤ 4611686018427387904 := by
  unfold capE
  split
  · constructor
    · intro h; omega
    · rintro ⟨h, _⟩; omega
  · split
    · constructor
      · intro h; omega
      · rintro ⟨_, h⟩; omega
    · exact ⟨fun _ => ⟨by omega, by omega⟩, fun _ => rfl⟩
theorem rd8 {R : List Nat} (hs : ∀ x ∈ R, x < 256) (h : 8 ≤ R.length) : rdN 8 18446744073709551615 R = some (valL (R.take 8), R.drop 8) := by
  have := valL_take_lt R 8 h hs
  unfold rdN
  rw [if_neg (by omega), if_neg (by omega)]
theorem leL_take8 {R : List Nat} (hs : ∀ x ∈ R, x < 256) (h : 8 ≤ R.length) : leL (valL (R.take 8)) 8 = R.take 8 := by
  have := congrArg (List.take 8) (rdN_some hs (rd8 hs h)).1
  rw [take_leL] at this
  exact this.symm
theorem cap24 {R : List Nat} (hs : ∀ x ∈ R, x < 256) (h : 24 ≤ R.length) (hd : R.drop 24 = []) : leL (loV R) 8 ++ leL (loV (R.drop 8)) 8 ++ leL (hiV (R.drop 8)) 8 = R := by
  have s2 : ∀ x ∈ R.drop 8, x < 256 := fun x hx => hs x (List.mem_of_mem_drop hx)
  have s3 : ∀ x ∈ (R.drop 8).drop 8, x < 256 := fun x hx => s2 x (List.mem_of_mem_drop hx)
  unfold loV hiV
  rw [leL_take8 hs (by omega), leL_take8 s2 (by simp; omega), leL_take8 s3 (by simp; omega), List.append_assoc]
  have e3 : ((R.drop 8).drop 8).take 8 = (R.drop 8).drop 8 := by
    have := List.take_append_drop 8 ((R.drop 8).drop 8)
    rw [List.drop_drop, List.drop_drop, hd, List.append_nil] at this
    rw [List.drop_drop]
    exact this
  rw [e3, List.take_append_drop, List.take_append_drop]
theorem rly_nz {op : Int} {r : Rp} (h : r.code ≠ 0) : rly op r = leL r.code.toNat 2 := by unfold rly; rw [if_neg h, List.append_nil]
theorem rly_z {op : Int} {r : Rp} (h : r.code = 0) : rly op r = leL 0 2 ++ told op r := by unfold rly; rw [if_pos h, h]; rfl
theorem told_c {op : Int} (r : Rp) (h : op = 1 ∨ op = 3) : told op r = leL r.obj.toNat 8 ++ leL r.lo 8 ++ leL r.hi 8 := by unfold told; rw [if_pos h]
theorem told_d {op : Int} (r : Rp) (h : op = 5) : told op r = r.data := by unfold told; rw [if_neg (by omega), if_pos h]
theorem told_n {op : Int} (r : Rp) (h : op = 9) : told op r = leL r.number.toNat 2 := by unfold told; rw [if_neg (by omega), if_neg (by omega), if_pos h]
theorem told_0 {op : Int} (r : Rp) (h : ¬ (op = 1 ∨ op = 3)) (h5 : ¬ op = 5) (h9 : ¬ op = 9) : told op r = [] := by unfold told; rw [if_neg h, if_neg h5, if_neg h9]
theorem psr_some {op : Int} {R : List Nat} {r : Rp} (hs : ∀ x ∈ R, x < 256) (h : psR op R = some r) : rfm op r = true ∧ rly op r = R ∧ r.hi < 18446744073709551616 ∧ r.lo < 18446744073709551616 := by
  unfold psR at h
  split at h
  · cases h
  · rename_i r0 R0 hr
    split at h
    · rename_i hf
      cases h
      obtain ⟨rfl, hf⟩ := hf
      refine ⟨hf, ?_⟩
      unfold rdR at hr
      split at hr
      · cases hr
      · rename_i cd R1 h1
        obtain ⟨a1, a2, a3⟩ := rdN_some hs h1
        have s1 : ∀ x ∈ R1, x < 256 := fun x hx => hs x (by rw [a1]; exact List.mem_append_right _ hx)
        split at hr
        · rename_i hcd
          simp only [Option.some.injEq, Prod.mk.injEq] at hr
          obtain ⟨rfl, rfl⟩ := hr
          refine ⟨?_, by simp [rpz], by simp [rpz]⟩
          rw [a1, rly_nz (by simp only [rpz]; omega), List.append_nil]
          rfl
        · rename_i hcd
          have hcd0 : cd = 0 := by omega
          subst hcd0
          split at hr
          · rename_i hop
            split at hr
            · rename_i hce
              simp only [Option.some.injEq, Prod.mk.injEq] at hr
              obtain ⟨rfl, hr2⟩ := hr
              obtain ⟨c1, c2⟩ := (capE_iff R1).1 hce
              have s2 : ∀ x ∈ R1.drop 8, x < 256 := fun x hx => s1 x (List.mem_of_mem_drop hx)
              have v2 := valL_take_lt (R1.drop 8) 8 (by simp; omega) s2
              have v3 := valL_take_lt ((R1.drop 8).drop 8) 8 (by simp; omega) (fun x hx => s2 x (List.mem_of_mem_drop hx))
              refine ⟨?_, by simp only [hiV]; omega, by simp only [loV]; omega⟩
              rw [a1, rly_z rfl, told_c _ hop]
              congr 1
              exact cap24 s1 c1 hr2
            · cases hr
          · rename_i hop
            split at hr
            · rename_i hop5
              simp only [Option.some.injEq, Prod.mk.injEq] at hr
              obtain ⟨rfl, hr2⟩ := hr
              refine ⟨?_, by simp, by simp⟩
              rw [a1, rly_z rfl, told_d _ hop5]
              congr 1
              conv => rhs; rw [← List.take_append_drop (min R1.length 1024) R1]
              rw [hr2, List.append_nil]
            · rename_i hop5
              split at hr
              · rename_i hop9
                split at hr
                · cases hr
                · rename_i v R2 h2
                  simp only [Option.some.injEq, Prod.mk.injEq] at hr
                  obtain ⟨rfl, rfl⟩ := hr
                  obtain ⟨b1, b2, b3⟩ := rdN_some s1 h2
                  refine ⟨?_, by simp, by simp⟩
                  rw [a1, b1, rly_z rfl, told_n _ hop9, List.append_nil]
                  rfl
              · rename_i hop9
                simp only [Option.some.injEq, Prod.mk.injEq] at hr
                obtain ⟨rfl, rfl⟩ := hr
                refine ⟨?_, by simp [rpz], by simp [rpz]⟩
                rw [a1, rly_z rfl, told_0 _ hop hop5 hop9]
    · cases h
theorem psr_lay {op : Int} {r : Rp} (h : rfm op r = true) (h1 : r.hi < 18446744073709551616) (h2 : r.lo < 18446744073709551616) : psR op (rly op r) = some r := by
  have hf := h
  obtain ⟨code, obj, hi, lo, data, number⟩ := r
  simp only [rfm, Bool.and_eq_true] at h
  obtain ⟨⟨hop, hcode⟩, hrest⟩ := h
  have hc := wi_iff.1 hcode
  simp only at hc h1 h2
  by_cases hc0 : code = 0
  · subst hc0
    simp only [if_true, Bool.and_eq_true, decide_eq_true_eq] at hrest
    obtain ⟨⟨⟨⟨ho, hob⟩, hnu⟩, hdl⟩, htn⟩ := hrest
    have hob := wi_iff.1 hob
    have hnu := wi_iff.1 hnu
    rw [tnB_iff] at htn
    unfold psR rdR rly
    simp only [Int.toNat_zero, if_true]
    rw [rdN_lay _ (by omega) (by omega)]
    simp only [ne_eq, not_true_eq_false, if_false]
    by_cases o13 : op = 1 ∨ op = 3
    · rw [if_pos o13]
      have e1 : told op ⟨0, obj, hi, lo, data, number⟩ = leL obj.toNat 8 ++ (leL lo 8 ++ leL hi 8) := by unfold told; rw [if_pos o13, List.append_assoc]
      rw [e1]
      have l1 : loV (leL obj.toNat 8 ++ (leL lo 8 ++ leL hi 8)) = obj.toNat := by unfold loV; rw [take_leL, valL_leL, Nat.mod_eq_of_lt (by omega)]
      have l2 : (leL obj.toNat 8 ++ (leL lo 8 ++ leL hi 8)).drop 8 = leL lo 8 ++ leL hi 8 := drop_leL _ _ _
      have l3 : loV (leL lo 8 ++ leL hi 8) = lo := by unfold loV; rw [take_leL, valL_leL, Nat.mod_eq_of_lt (by omega)]
      have l4 : hiV (leL lo 8 ++ leL hi 8) = hi := by unfold hiV; rw [drop_leL, List.take_of_length_le (by rw [leL_length]; omega), valL_leL, Nat.mod_eq_of_lt (by omega)]
      rw [if_pos ((capE_iff _).2 ⟨by simp [leL_length], by rw [l1]; omega⟩), l1, l2, l3, l4]
      have l5 : (leL obj.toNat 8 ++ (leL lo 8 ++ leL hi 8)).drop 24 = [] := List.drop_of_length_le (by simp [leL_length])
      rw [l5]
      unfold unt at htn
      rw [if_pos o13] at htn
      simp only [rpz, Rp.mk.injEq, true_and] at htn
      obtain ⟨rfl, rfl⟩ := htn
      rw [Int.toNat_of_nonneg hob.1]
      simp only
      rw [if_pos ⟨trivial, hf⟩]
    · rw [if_neg o13]
      unfold unt at htn
      rw [if_neg o13] at htn
      by_cases o5 : op = 5
      · rw [if_pos o5] at htn ⊢
        simp only [rpz, Rp.mk.injEq, true_and, and_true] at htn
        obtain ⟨rfl, rfl, rfl, rfl⟩ := htn
        have e1 : told op ⟨0, 0, 0, 0, data, 0⟩ = data := by unfold told; rw [if_neg o13, if_pos o5]
        rw [e1, Nat.min_eq_left (by omega), List.take_length, List.drop_length]
        simp only
        rw [if_pos ⟨trivial, hf⟩]
      · rw [if_neg o5] at htn ⊢
        by_cases o9 : op = 9
        · rw [if_pos o9] at htn ⊢
          simp only [rpz, Rp.mk.injEq, true_and, and_true] at htn
          obtain ⟨rfl, rfl, rfl, rfl⟩ := htn
          have e1 : told op ⟨0, 0, 0, 0, [], number⟩ = leL number.toNat 2 ++ [] := by unfold told; rw [if_neg o13, if_neg o5, if_pos o9, List.append_nil]
          rw [e1, rdN_lay _ (by omega) (by omega)]
          simp only
          rw [Int.toNat_of_nonneg hnu.1, if_pos ⟨trivial, hf⟩]
        · rw [if_neg o9] at htn ⊢
          simp only [rpz, Rp.mk.injEq, true_and] at htn
          obtain ⟨rfl, rfl, rfl, rfl, rfl⟩ := htn
          have e1 : told op ⟨0, 0, 0, 0, [], 0⟩ = [] := by unfold told; rw [if_neg o13, if_neg o5, if_neg o9]
          rw [e1]
          simp only
          rw [if_pos ⟨trivial, hf⟩]
          rfl
  · rw [if_neg hc0] at hrest
    rw [tnB_iff] at hrest
    simp only [rpz, Rp.mk.injEq, true_and] at hrest
    obtain ⟨rfl, rfl, rfl, rfl, rfl⟩ := hrest
    unfold psR rdR rly
    simp only
    rw [if_neg hc0, rdN_lay _ (by omega) (by omega)]
    simp only
    rw [if_pos (by omega)]
    simp only [rpz]
    rw [Int.toNat_of_nonneg hc.1, if_pos ⟨trivial, hf⟩]
end Go.Proofs.Ytaffgoacbiedlaa
