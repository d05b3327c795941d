import Derived.Test.YtejkbeeffllpfaaKA

namespace Go.Proofs.Ytejkbeeffllpfaa
open Go.RowKit
set_option linter.unusedVariables false

def strB (l : List Nat) : ByteArray := ⟨(l.map UInt8.ofNat).toArray⟩
theorem strB_inj {L M : List Nat} (hL : ∀ x ∈ L, x < 256) (hM : ∀ x ∈ M, x < 256) (h : strB L = strB M) : L = M := by
  unfold strB at h
  have h1 : L.map UInt8.ofNat = M.map UInt8.ofNat := by simpa using h
  have key : ∀ (K : List Nat), (∀ x ∈ K, x < 256) → (K.map UInt8.ofNat).map UInt8.toNat = K := by
    intro K hK
    rw [List.map_map]
    conv => rhs; rw [← List.map_id K]
    apply List.map_congr_left
    intro x hx
    have := hK x hx
    simp [UInt8.toNat_ofNat']
    omega
  rw [← key L hL, ← key M hM, h1]
theorem str_beq (x y : ByteArray) : (x.toList == y.toList) = decide (x = y) := by
  by_cases h : x = y
  · subst h; simp
  · rw [decide_eq_false h, beq_eq_false_iff_ne]
    intro e
    rw [ByteArray.toList_eq, ByteArray.toList_eq] at e
    exact h (ByteArray.ext (Array.toList_inj.1 e))
theorem conv_none (W : World) : (convert 30 9 (.slice none 0 0)).run Try.prog W = .ok (.string (strB [])) W := by
  rw [run_convert_bytes_string W 30 9 5 none 0 0 Try.underlying30 Try.underlying5 Try.underlying9]
  rfl
theorem Row.conv {w : World} {a : Option Addr} {n cap : Nat} {L : List Nat} (h : Row w a n cap (u8s L)) (hs : ∀ x ∈ L, x < 256) : (convert 30 9 (.slice a n cap)).run Try.prog w = .ok (.string (strB L)) w := by
  have hlen := h.len
  rw [u8s_length] at hlen
  cases a with
  | none =>
    obtain ⟨rfl, rfl⟩ := h.none_ rfl
    have hL : L = [] := List.eq_nil_of_length_eq_zero hlen
    subst hL
    exact conv_none w
  | some x =>
    have hl : (L.map UInt8.ofNat).length = n := by simp [hlen]
    have := run_convert_bytes_back (P := Try.prog) w 30 9 5 x cap (L.map UInt8.ofNat) Try.underlying30 Try.underlying5 Try.underlying9 (fun j hj => by
      have hj' : j < L.length := by simpa using hj
      rw [h.cells x rfl j _ (u8s_get L j hj')]
      have := hs _ (List.getElem_mem hj')
      simp [UInt8.toNat_ofNat']
      omega)
    rw [hl] at this
    exact this
/-- How far two lists are alike. -/
def NumRel (A B : List Int) (w : World) (v : Value) (w' : World) : Prop := ∃ (i k : Nat), v = .int .i64 (i : Int) ∧ i ≤ A.length ∧ A.take i = B.take i ∧ w' = w.drewN k
set_option maxRecDepth 100000 in
set_option maxHeartbeats 1000000 in
theorem sameInts_any (a b : Option Addr) (n m ca cb : Nat) (A B : List Int) (w : World) (hA : Row w a n ca (ints A)) (hB : Row w b m cb (ints B)) (hn : n < 9223372036854775807) :
    Calls Try.prog 19 #[.slice a n ca, .slice b m cb] w fun e w' => e = .returned (.bool (decide (A = B))) ∧ ∃ k, w' = w.drewN k := by
  have la : A.length = n := by have := hA.len; rwa [ints_length] at this
  have lb : B.length = m := by have := hB.len; rwa [ints_length] at this
  have HA := hid hA
  have HB := hid hB
  clear hA hB
  by_cases hnm : n = m
  · subst hnm
    obtain ⟨d, hd⟩ : ∃ d, d = decide (A = B) := ⟨_, rfl⟩
    rw [← hd]
    have HD := hid hd
    clear hd
    go_enter Try.func19, Try.ntmps19
    go_wp2
    go_loopw [5] (NumRel A B w) (fun k _ => n - ivN k)
    case atStart => exact ⟨0, 0, rfl, Nat.zero_le _, rfl, rfl⟩
    case round =>
      obtain ⟨i, k, rfl, hi, htk, rfl⟩ := hrel
      have HT := hid htk
      clear htk
      by_cases hlt : i < n
      · have hd : decide ((i : Int) < (n : Int)) = true := decide_eq_true (by omega)
        obtain ⟨b1, o1, rfl, h1⟩ := HA.out.plain (by omega)
        obtain ⟨b2, o2, rfl, h2⟩ := HB.out.plain (by omega)
        have y1 := h1 i _ (ints_get A i (by omega))
        have y2 := h2 i _ (ints_get B i (by omega))
        obtain ⟨x, hx⟩ : ∃ x, x = A[i] := ⟨_, rfl⟩
        obtain ⟨y, hy⟩ : ∃ y, y = B[i] := ⟨_, rfl⟩
        rw [← hx] at y1
        rw [← hy] at y2
        have HX := hid hx
        have HY := hid hy
        clear h1 h2 hx hy
        by_cases hxy : x = y
        · have hq : (x != y) = false := by simp [hxy]
          go_wp2
          go_quiet (fail)
          go_wp2
          refine ⟨⟨i + 1, k + nq, rfl, by omega, ?_, rfl⟩, by simp [ivN]; omega⟩
          rw [take_step A i (by omega), take_step B i (by omega), HT.out, ← HX.out, ← HY.out, hxy]
        · have hq : (x != y) = true := by simp [hxy]
          go_wp2
          go_quiet (fail)
          go_wp2
          go_ret
          refine ⟨ret_bool ?_, k + nq, by simp⟩
          rw [HD.out]
          exact (decide_eq_false (fun e => hxy (by rw [HX.out, HY.out]; simp only [e]))).symm
      · obtain rfl : i = n := by omega
        have hd : decide ((i : Int) < (i : Int)) = false := by simp
        go_wp2
        go_ret
        refine ⟨ret_bool ?_, k, rfl⟩
        rw [HD.out]
        have := HT.out
        rw [List.take_of_length_le (by omega), List.take_of_length_le (by omega)] at this
        exact (decide_eq_true this).symm
  · have hd : ((n : Int) != (m : Int)) = true := by simp; omega
    have e : decide (A = B) = false := decide_eq_false (fun e => hnm (by rw [← la, ← lb, e]))
    rw [e]
    go_enter Try.func19, Try.ntmps19
    go_wp2
    go_ret
    exact ⟨rfl, 0, rfl⟩
set_option maxRecDepth 100000 in
set_option maxHeartbeats 1000000 in
theorem same_any (a b : Option Addr) (n m ca cb : Nat) (A B : List Nat) (w : World) (hA : Row w a n ca (u8s A)) (hB : Row w b m cb (u8s B)) (sA : ∀ x ∈ A, x < 256) (sB : ∀ x ∈ B, x < 256) :
    Calls Try.prog 11 #[.slice a n ca, .slice b m cb] w fun e w' => e = .returned (.bool (decide (A = B))) ∧ w' = w := by
  have c1 := hA.conv sA
  have c2 := hB.conv sB
  have HE : Hid (((strB A).toList == (strB B).toList) = decide (A = B)) := hid (by
    rw [str_beq]
    congr 1
    refine propext ⟨fun h => strB_inj sA sB h, fun h => by rw [h]⟩)
  clear hA hB
  obtain ⟨x, hx⟩ : ∃ x, x = strB A := ⟨_, rfl⟩
  obtain ⟨y, hy⟩ : ∃ y, y = strB B := ⟨_, rfl⟩
  rw [← hx] at c1 HE
  rw [← hy] at c2 HE
  clear hx hy
  go_enter Try.func11, Try.ntmps11
  go_wp2
  go_ret
  exact ⟨ret_bool HE.out, rfl⟩
/-- A few bytes that are written out. -/
theorem row_new (w : World) (L : List Nat) (e : TypeId) : Row (w.alloc (.cells (u8s L).toArray e)) (some ⟨w.heap.size, 0, none⟩) L.length L.length (u8s L) :=
  Row.at (u8s_length _) (Nat.le_refl _) (u8s_one _) (fun i v hv => by
    rw [Nat.zero_add]
    exact (lies_new w _ e i v (by simpa using hv)).1)
end Go.Proofs.Ytejkbeeffllpfaa
