import Derived.Test.YtjncgpekmilpeaaC2
namespace Go.Proofs.Ytjncgpekmilpeaa
open Go.RowKit
set_option linter.unusedVariables false

/-- The number in the first k bytes; what is told beside it. -/
def getV (L : List Nat) (k : Nat) : Nat := if L.length < k then 0 else valL (L.take k)
def getE (L : List Nat) (k : Nat) : Int := if L.length < k then 17 else 0
theorem getV_lt (L : List Nat) (k : Nat) (hs : ∀ x ∈ L, x < 256) : getV L k < 256 ^ k := by
  unfold getV
  split
  · exact Nat.pow_pos (by omega)
  · exact valL_take_lt L k (by omega) hs
theorem get_short {L : List Nat} {k : Nat} (h : L.length < k) : getV L k = 0 ∧ getE L k = 17 := by unfold getV getE; rw [if_pos h, if_pos h]; exact ⟨rfl, rfl⟩
theorem get_full {L : List Nat} {k : Nat} (h : ¬ L.length < k) : getV L k = valL (L.take k) ∧ getE L k = 0 := by unfold getV getE; rw [if_neg h, if_neg h]; exact ⟨rfl, rfl⟩
theorem or_step {L : List Nat} {i : Nat} (h : i < L.length) (hi : i < 8) (hs : ∀ x ∈ L, x < 256) :
    bits .or .u64 ((valL (L.take i) : Nat) : Int) (IntKind.u64.wrap (IntKind.u64.wrap (L[i] : Int) * 2 ^ (i * 8))) = ((valL (L.take (i + 1)) : Nat) : Int) := by
  have hb := hs L[i] (List.getElem_mem h)
  have hv := valL_take_lt L i (by omega) hs
  have hv1 := valL_take_lt L (i + 1) (by omega) hs
  rw [valL_take L i h] at *
  have hp : (256 : Nat) ^ (i + 1) ≤ 256 ^ 8 := Nat.pow_le_pow_right (by omega) (by omega)
  have hp0 : (256 : Nat) ^ i ≤ 256 ^ 8 := Nat.pow_le_pow_right (by omega) (by omega)
  have e0 : IntKind.u64.wrap (L[i] : Int) = (L[i] : Int) := by rw [IntKind.wrap_u64]; omega
  have e3 : ((L[i] : Int) * 2 ^ (i * 8)) = ((256 ^ i * L[i] : Nat) : Int) := by
    rw [Nat.mul_comm (256 ^ i), pow256, Nat.mul_comm 8 i]; simp
  have hm : 256 ^ i * L[i] < 18446744073709551616 := by omega
  rw [e0, e3]
  have e4 : IntKind.u64.wrap ((256 ^ i * L[i] : Nat) : Int) = ((256 ^ i * L[i] : Nat) : Int) := by
    generalize 256 ^ i * L[i] = q at *
    rw [IntKind.wrap_u64]; omega
  rw [e4, u64_or_nat _ _ (by omega) hm, Nat.mul_comm (256 ^ i), join8 hv, Nat.mul_comm]
def GetRel (L : List Nat) (k : Nat) (v t : Value) : Prop := ∃ i : Nat, i ≤ k ∧ t = .int .i64 (i : Int) ∧ v = .int .u64 ((valL (L.take i) : Nat) : Int)

set_option maxRecDepth 100000 in
set_option maxHeartbeats 1000000 in
theorem get8 (a : Option Addr) (n cap : Nat) (L : List Nat) (w : World) (h : Row w a n cap L) :
    Calls Try.prog 29 #[.slice a n cap] w fun e w' => e = .returned (.tuple #[.int .u8 ((getV L 1 : Nat) : Int), .int .i64 (getE L 1)]) ∧ w' = w := by
  obtain rfl := h.len
  by_cases hl : L.length < 1
  · obtain ⟨e1, e2⟩ := get_short hl
    rw [e1, e2]
    have hd : decide ((L.length : Int) < 1) = true := by simp; omega
    go_enter Try.func29, Try.ntmps29
    go_wp2_with (first | (go_at_call 42; refine (width8 _).mono ?_; rintro e w1 ⟨rfl, rfl⟩))
    exact bodyPost_ret (v := .tuple #[.int .u8 0, .int .i64 17]) (by simp [results, Try.results29, go_sem]) rfl ⟨rfl, rfl⟩
  · obtain ⟨e1, e2⟩ := get_full hl
    rw [e1, e2]
    have hd : decide ((L.length : Int) < 1) = false := by simp; omega
    obtain ⟨b, o, rfl, hc⟩ := h.plain (by omega)
    have HC : Hid (∀ i (hi : i < L.length), w.cell? ⟨b, o + i, none⟩ = some (.int .u8 ((L[i] : Nat) : Int))) := hc
    have HS : Hid (∀ x ∈ L, x < 256) := h.small
    have HT : Hid (valL (L.take 1) < 256) := valL_take_lt L 1 (by omega) h.small
    clear hc h e1 e2
    go_enter Try.func29, Try.ntmps29
    go_wp2_with (first | (go_at_call 42; refine (width8 _).mono ?_; rintro e w1 ⟨rfl, rfl⟩))
    go_loop [5, 13] (GetRel L 1) (fun _ t => 1 - (intOf t).toNat)
    case atStart => exact ⟨0, by omega, rfl, rfl⟩
    case round =>
      obtain ⟨i, hi, rfl, rfl⟩ := hrel
      by_cases hlt : i < 1
      · have hd2 : decide ((i : Int) < 1) = true := by simp; omega
        have hli : i < L.length := by omega
        have hcell := HC.out i hli
        have ew : IntKind.i64.wrap ((i : Int) * 8) = (i : Int) * 8 := by rw [IntKind.wrap_i64]; omega
        have hor : Hid _ := or_step hli (by omega) HS.out
        go_wp2
        exact ⟨⟨i + 1, by omega, by go_num, by rw [← hor.out]⟩, by simp [intOf]; omega⟩
      · obtain rfl : i = 1 := by omega
        have ew : IntKind.u8.wrap ((valL (L.take 1) : Nat) : Int) = ((valL (L.take 1) : Nat) : Int) := by have := HT.out; rw [IntKind.wrap_u8]; omega
        go_wp2
        exact bodyPost_ret (v := .tuple #[.int .u8 ((valL (L.take 1) : Nat) : Int), .int .i64 0]) (by simp [results, Try.results29, go_sem]) rfl ⟨rfl, rfl⟩

set_option maxRecDepth 100000 in
set_option maxHeartbeats 1000000 in
theorem wide8 (a : Option Addr) (n cap : Nat) (L : List Nat) (w : World) (h : Row w a n cap L) :
    Calls Try.prog 58 #[.slice a n cap] w fun e w' => e = .returned (.tuple #[.int .u64 ((getV L 1 : Nat) : Int), .int .i64 (getE L 1)]) ∧ w' = w := by
  have HT : Hid (getV L 1 < 256) := getV_lt L 1 h.small
  have ew : IntKind.u64.wrap ((getV L 1 : Nat) : Int) = ((getV L 1 : Nat) : Int) := by have := HT.out; rw [IntKind.wrap_u64]; omega
  go_enter Try.func58, Try.ntmps58
  go_wp2_with (first | (go_at_call 29; refine (get8 _ _ _ L _ h).mono ?_; rintro e w1 ⟨rfl, rfl⟩))
  exact bodyPost_ret (v := .tuple #[.int .u64 ((getV L 1 : Nat) : Int), .int .i64 (getE L 1)]) (by simp [results, Try.results58, go_sem]) rfl ⟨rfl, rfl⟩

set_option maxRecDepth 100000 in
set_option maxHeartbeats 1000000 in
theorem get16 (a : Option Addr) (n cap : Nat) (L : List Nat) (w : World) (h : Row w a n cap L) :
    Calls Try.prog 30 #[.slice a n cap] w fun e w' => e = .returned (.tuple #[.int .u16 ((getV L 2 : Nat) : Int), .int .i64 (getE L 2)]) ∧ w' = w := by
  obtain rfl := h.len
  by_cases hl : L.length < 2
  · obtain ⟨e1, e2⟩ := get_short hl
    rw [e1, e2]
    have hd : decide ((L.length : Int) < 2) = true := by simp; omega
    go_enter Try.func30, Try.ntmps30
    go_wp2_with (first | (go_at_call 44; refine (width16 _).mono ?_; rintro e w1 ⟨rfl, rfl⟩))
    exact bodyPost_ret (v := .tuple #[.int .u16 0, .int .i64 17]) (by simp [results, Try.results30, go_sem]) rfl ⟨rfl, rfl⟩
  · obtain ⟨e1, e2⟩ := get_full hl
    rw [e1, e2]
    have hd : decide ((L.length : Int) < 2) = false := by simp; omega
    obtain ⟨b, o, rfl, hc⟩ := h.plain (by omega)
    have HC : Hid (∀ i (hi : i < L.length), w.cell? ⟨b, o + i, none⟩ = some (.int .u8 ((L[i] : Nat) : Int))) := hc
    have HS : Hid (∀ x ∈ L, x < 256) := h.small
    have HT : Hid (valL (L.take 2) < 65536) := valL_take_lt L 2 (by omega) h.small
    clear hc h e1 e2
    go_enter Try.func30, Try.ntmps30
    go_wp2_with (first | (go_at_call 44; refine (width16 _).mono ?_; rintro e w1 ⟨rfl, rfl⟩))
    go_loop [5, 13] (GetRel L 2) (fun _ t => 2 - (intOf t).toNat)
    case atStart => exact ⟨0, by omega, rfl, rfl⟩
    case round =>
      obtain ⟨i, hi, rfl, rfl⟩ := hrel
      by_cases hlt : i < 2
      · have hd2 : decide ((i : Int) < 2) = true := by simp; omega
        have hli : i < L.length := by omega
        have hcell := HC.out i hli
        have ew : IntKind.i64.wrap ((i : Int) * 8) = (i : Int) * 8 := by rw [IntKind.wrap_i64]; omega
        have hor : Hid _ := or_step hli (by omega) HS.out
        go_wp2
        exact ⟨⟨i + 1, by omega, by go_num, by rw [← hor.out]⟩, by simp [intOf]; omega⟩
      · obtain rfl : i = 2 := by omega
        have ew : IntKind.u16.wrap ((valL (L.take 2) : Nat) : Int) = ((valL (L.take 2) : Nat) : Int) := by have := HT.out; rw [IntKind.wrap_u16]; omega
        go_wp2
        exact bodyPost_ret (v := .tuple #[.int .u16 ((valL (L.take 2) : Nat) : Int), .int .i64 0]) (by simp [results, Try.results30, go_sem]) rfl ⟨rfl, rfl⟩

set_option maxRecDepth 100000 in
set_option maxHeartbeats 1000000 in
theorem wide16 (a : Option Addr) (n cap : Nat) (L : List Nat) (w : World) (h : Row w a n cap L) :
    Calls Try.prog 59 #[.slice a n cap] w fun e w' => e = .returned (.tuple #[.int .u64 ((getV L 2 : Nat) : Int), .int .i64 (getE L 2)]) ∧ w' = w := by
  have HT : Hid (getV L 2 < 65536) := getV_lt L 2 h.small
  have ew : IntKind.u64.wrap ((getV L 2 : Nat) : Int) = ((getV L 2 : Nat) : Int) := by have := HT.out; rw [IntKind.wrap_u64]; omega
  go_enter Try.func59, Try.ntmps59
  go_wp2_with (first | (go_at_call 30; refine (get16 _ _ _ L _ h).mono ?_; rintro e w1 ⟨rfl, rfl⟩))
  exact bodyPost_ret (v := .tuple #[.int .u64 ((getV L 2 : Nat) : Int), .int .i64 (getE L 2)]) (by simp [results, Try.results59, go_sem]) rfl ⟨rfl, rfl⟩

set_option maxRecDepth 100000 in
set_option maxHeartbeats 1000000 in
theorem get32 (a : Option Addr) (n cap : Nat) (L : List Nat) (w : World) (h : Row w a n cap L) :
    Calls Try.prog 31 #[.slice a n cap] w fun e w' => e = .returned (.tuple #[.int .u32 ((getV L 4 : Nat) : Int), .int .i64 (getE L 4)]) ∧ w' = w := by
  obtain rfl := h.len
  by_cases hl : L.length < 4
  · obtain ⟨e1, e2⟩ := get_short hl
    rw [e1, e2]
    have hd : decide ((L.length : Int) < 4) = true := by simp; omega
    go_enter Try.func31, Try.ntmps31
    go_wp2_with (first | (go_at_call 46; refine (width32 _).mono ?_; rintro e w1 ⟨rfl, rfl⟩))
    exact bodyPost_ret (v := .tuple #[.int .u32 0, .int .i64 17]) (by simp [results, Try.results31, go_sem]) rfl ⟨rfl, rfl⟩
  · obtain ⟨e1, e2⟩ := get_full hl
    rw [e1, e2]
    have hd : decide ((L.length : Int) < 4) = false := by simp; omega
    obtain ⟨b, o, rfl, hc⟩ := h.plain (by omega)
    have HC : Hid (∀ i (hi : i < L.length), w.cell? ⟨b, o + i, none⟩ = some (.int .u8 ((L[i] : Nat) : Int))) := hc
    have HS : Hid (∀ x ∈ L, x < 256) := h.small
    have HT : Hid (valL (L.take 4) < 4294967296) := valL_take_lt L 4 (by omega) h.small
    clear hc h e1 e2
    go_enter Try.func31, Try.ntmps31
    go_wp2_with (first | (go_at_call 46; refine (width32 _).mono ?_; rintro e w1 ⟨rfl, rfl⟩))
    go_loop [5, 13] (GetRel L 4) (fun _ t => 4 - (intOf t).toNat)
    case atStart => exact ⟨0, by omega, rfl, rfl⟩
    case round =>
      obtain ⟨i, hi, rfl, rfl⟩ := hrel
      by_cases hlt : i < 4
      · have hd2 : decide ((i : Int) < 4) = true := by simp; omega
        have hli : i < L.length := by omega
        have hcell := HC.out i hli
        have ew : IntKind.i64.wrap ((i : Int) * 8) = (i : Int) * 8 := by rw [IntKind.wrap_i64]; omega
        have hor : Hid _ := or_step hli (by omega) HS.out
        go_wp2
        exact ⟨⟨i + 1, by omega, by go_num, by rw [← hor.out]⟩, by simp [intOf]; omega⟩
      · obtain rfl : i = 4 := by omega
        have ew : IntKind.u32.wrap ((valL (L.take 4) : Nat) : Int) = ((valL (L.take 4) : Nat) : Int) := by have := HT.out; rw [IntKind.wrap_u32]; omega
        go_wp2
        exact bodyPost_ret (v := .tuple #[.int .u32 ((valL (L.take 4) : Nat) : Int), .int .i64 0]) (by simp [results, Try.results31, go_sem]) rfl ⟨rfl, rfl⟩

set_option maxRecDepth 100000 in
set_option maxHeartbeats 1000000 in
theorem wide32 (a : Option Addr) (n cap : Nat) (L : List Nat) (w : World) (h : Row w a n cap L) :
    Calls Try.prog 60 #[.slice a n cap] w fun e w' => e = .returned (.tuple #[.int .u64 ((getV L 4 : Nat) : Int), .int .i64 (getE L 4)]) ∧ w' = w := by
  have HT : Hid (getV L 4 < 4294967296) := getV_lt L 4 h.small
  have ew : IntKind.u64.wrap ((getV L 4 : Nat) : Int) = ((getV L 4 : Nat) : Int) := by have := HT.out; rw [IntKind.wrap_u64]; omega
  go_enter Try.func60, Try.ntmps60
  go_wp2_with (first | (go_at_call 31; refine (get32 _ _ _ L _ h).mono ?_; rintro e w1 ⟨rfl, rfl⟩))
  exact bodyPost_ret (v := .tuple #[.int .u64 ((getV L 4 : Nat) : Int), .int .i64 (getE L 4)]) (by simp [results, Try.results60, go_sem]) rfl ⟨rfl, rfl⟩

set_option maxRecDepth 100000 in
set_option maxHeartbeats 1000000 in
theorem get64 (a : Option Addr) (n cap : Nat) (L : List Nat) (w : World) (h : Row w a n cap L) :
    Calls Try.prog 32 #[.slice a n cap] w fun e w' => e = .returned (.tuple #[.int .u64 ((getV L 8 : Nat) : Int), .int .i64 (getE L 8)]) ∧ w' = w := by
  obtain rfl := h.len
  by_cases hl : L.length < 8
  · obtain ⟨e1, e2⟩ := get_short hl
    rw [e1, e2]
    have hd : decide ((L.length : Int) < 8) = true := by simp; omega
    go_enter Try.func32, Try.ntmps32
    go_wp2_with (first | (go_at_call 47; refine (width64 _).mono ?_; rintro e w1 ⟨rfl, rfl⟩))
    exact bodyPost_ret (v := .tuple #[.int .u64 0, .int .i64 17]) (by simp [results, Try.results32, go_sem]) rfl ⟨rfl, rfl⟩
  · obtain ⟨e1, e2⟩ := get_full hl
    rw [e1, e2]
    have hd : decide ((L.length : Int) < 8) = false := by simp; omega
    obtain ⟨b, o, rfl, hc⟩ := h.plain (by omega)
    have HC : Hid (∀ i (hi : i < L.length), w.cell? ⟨b, o + i, none⟩ = some (.int .u8 ((L[i] : Nat) : Int))) := hc
    have HS : Hid (∀ x ∈ L, x < 256) := h.small
    have HT : Hid (valL (L.take 8) < 18446744073709551616) := valL_take_lt L 8 (by omega) h.small
    clear hc h e1 e2
    go_enter Try.func32, Try.ntmps32
    go_wp2_with (first | (go_at_call 47; refine (width64 _).mono ?_; rintro e w1 ⟨rfl, rfl⟩))
    go_loop [5, 13] (GetRel L 8) (fun _ t => 8 - (intOf t).toNat)
    case atStart => exact ⟨0, by omega, rfl, rfl⟩
    case round =>
      obtain ⟨i, hi, rfl, rfl⟩ := hrel
      by_cases hlt : i < 8
      · have hd2 : decide ((i : Int) < 8) = true := by simp; omega
        have hli : i < L.length := by omega
        have hcell := HC.out i hli
        have ew : IntKind.i64.wrap ((i : Int) * 8) = (i : Int) * 8 := by rw [IntKind.wrap_i64]; omega
        have hor : Hid _ := or_step hli (by omega) HS.out
        go_wp2
        exact ⟨⟨i + 1, by omega, by go_num, by rw [← hor.out]⟩, by simp [intOf]; omega⟩
      · obtain rfl : i = 8 := by omega
        have ew : IntKind.u64.wrap ((valL (L.take 8) : Nat) : Int) = ((valL (L.take 8) : Nat) : Int) := by have := HT.out; rw [IntKind.wrap_u64]; omega
        go_wp2
        exact bodyPost_ret (v := .tuple #[.int .u64 ((valL (L.take 8) : Nat) : Int), .int .i64 0]) (by simp [results, Try.results32, go_sem]) rfl ⟨rfl, rfl⟩

set_option maxRecDepth 100000 in
set_option maxHeartbeats 1000000 in
theorem wide64 (a : Option Addr) (n cap : Nat) (L : List Nat) (w : World) (h : Row w a n cap L) :
    Calls Try.prog 61 #[.slice a n cap] w fun e w' => e = .returned (.tuple #[.int .u64 ((getV L 8 : Nat) : Int), .int .i64 (getE L 8)]) ∧ w' = w := by
  have HT : Hid (getV L 8 < 18446744073709551616) := getV_lt L 8 h.small
  have ew : IntKind.u64.wrap ((getV L 8 : Nat) : Int) = ((getV L 8 : Nat) : Int) := by have := HT.out; rw [IntKind.wrap_u64]; omega
  go_enter Try.func61, Try.ntmps61
  go_wp2_with (first | (go_at_call 32; refine (get64 _ _ _ L _ h).mono ?_; rintro e w1 ⟨rfl, rfl⟩))
  exact bodyPost_ret (v := .tuple #[.int .u64 ((getV L 8 : Nat) : Int), .int .i64 (getE L 8)]) (by simp [results, Try.results61, go_sem]) rfl ⟨rfl, rfl⟩

end Go.Proofs.Ytjncgpekmilpeaa
