import Derived.Test.YtjncgpekmilpeaaC3
namespace Go.Proofs.Ytjncgpekmilpeaa
open Go.RowKit
set_option linter.unusedVariables false

/-- A reader in block g; its bytes R lie in block gb. -/
structure Rd (w : World) (g gb : Nat) (R : List Nat) : Prop where
  ex : ∃ o cap, Lies w ⟨g, 0, none⟩ (.slice (some ⟨gb, o, none⟩) R.length cap) ∧ R.length ≤ cap ∧ ∀ i (hi : i < R.length), w.cell? ⟨gb, o + i, none⟩ = some (.int .u8 ((R[i] : Nat) : Int))
  ne : gb ≠ g
  small : ∀ x ∈ R, x < 256
theorem Rd.but {S : Nat → Prop} {w w' : World} {g gb : Nat} {R : List Nat} (hb : But S w w') (h : Rd w g gb R) (h1 : ¬ S g) (h2 : ¬ S gb) : Rd w' g gb R := by
  obtain ⟨o, cap, hl, hc, hcell⟩ := h.ex
  refine ⟨⟨o, cap, hl.but hb h1, hc, fun i hi => ?_⟩, h.ne, h.small⟩
  have hk := hcell i hi
  rw [World.cell?_of_block (w := w) (hb.block gb (World.block_lt_of_cell? _ _ hk) h2)]
  exact hk
theorem Rd.later {w w' : World} {g gb : Nat} {R : List Nat} (hb : Below w.heap.size w w') (h : Rd w g gb R) : Rd w' g gb R := h.but (S := fun _ => False) (But.of hb) (fun h => h) (fun h => h)
theorem Rd.alloc {w : World} {g gb : Nat} {R : List Nat} (h : Rd w g gb R) (o : Obj) : Rd (w.alloc o) g gb R := h.later (below1 _ _)
theorem Rd.lt {w : World} {g gb : Nat} {R : List Nat} (h : Rd w g gb R) : g < w.heap.size := by
  obtain ⟨o, cap, hl, _⟩ := h.ex
  exact World.block_lt_of_cell? _ _ hl.1

theorem drop_get (R : List Nat) (n i : Nat) (h : i < (R.drop n).length) : (R.drop n)[i] = R[n + i]'(by simp at h; omega) := by simp

theorem Rd.shift {w : World} {g gb : Nat} {R : List Nat} {o cap n o' cap' : Nat} (h : Rd w g gb R) (hl : Lies w ⟨g, 0, none⟩ (.slice (some ⟨gb, o, none⟩) R.length cap))
    (hcell : ∀ i (hi : i < R.length), w.cell? ⟨gb, o + i, none⟩ = some (.int .u8 ((R[i] : Nat) : Int))) (hn : n ≤ R.length) (hc : R.length - n ≤ cap') (ho : o' = o + n ∨ n = R.length) :
    Rd (w.setCell ⟨g, 0, none⟩ (.slice (some ⟨gb, o', none⟩) (R.length - n) cap')) g gb (R.drop n) := by
  refine ⟨⟨o', cap', ?_, by simpa using hc, fun i hi => ?_⟩, h.ne, fun x hx => h.small x (List.mem_of_mem_drop hx)⟩
  · rw [List.length_drop]; exact hl.put
  · rw [drop_get]
    have hi2 : i < R.length - n := by simpa using hi
    rw [World.cell?_setCell_other _ _ _ _ (fun e => h.ne (by simpa using congrArg Addr.block e.symm))]
    rcases ho with rfl | rfl
    · rw [Nat.add_assoc]; exact hcell (n + i) (by omega)
    · omega

set_option maxRecDepth 100000 in
set_option maxHeartbeats 1000000 in
theorem take_any (g gb : Nat) (R : List Nat) (n : Nat) (w : World) (h : Rd w g gb R) (hn : n ≤ R.length) :
    Calls Try.prog 40 #[.pointer (some ⟨g, 0, none⟩), .int .i64 (n : Int)] w fun e w' => e = .returned (.tuple #[]) ∧ Rd w' g gb (R.drop n) ∧ But (· = g) w w' := by
  obtain ⟨o, cap, hl, hc, hcell⟩ := h.ex
  have hl1 := hl.1
  have hl2 := hl.2
  have hle : (n : Int) ≤ (R.length : Int) := by omega
  have hcap : (R.length : Int) ≤ (cap : Int) := by omega
  have h0 : (0 : Int) ≤ (n : Int) := by omega
  have HH : Hid (Rd w g gb R) := h
  have HC : Hid (∀ i (hi : i < R.length), w.cell? ⟨gb, o + i, none⟩ = some (.int .u8 ((R[i] : Nat) : Int))) := hcell
  clear h hcell
  go_enter Try.func40, Try.ntmps40
  go_wp2
  · exact bodyPost_end (v := .tuple #[]) (by simp [results, Try.results40, go_sem]) rfl ⟨rfl, HH.out.shift hl HC.out hn (by omega) (.inr (by omega)), (But.refl (· = g) w).setCell (p := ⟨g, 0, none⟩) rfl _⟩
  · exact bodyPost_end (v := .tuple #[]) (by simp [results, Try.results40, go_sem]) rfl ⟨rfl, HH.out.shift hl HC.out hn (by omega) (.inl rfl), (But.refl (· = g) w).setCell (p := ⟨g, 0, none⟩) rfl _⟩

abbrev okW (k : Int) : Prop := k = 1 ∨ k = 2 ∨ k = 4 ∨ k = 8
def lookV (L : List Nat) (k : Int) : Nat := if okW k then getV L k.toNat else 0
def lookE (L : List Nat) (k : Int) : Int := if okW k then getE L k.toNat else 5

set_option maxRecDepth 100000 in
set_option maxHeartbeats 1000000 in
theorem look_any (a : Option Addr) (n cap : Nat) (L : List Nat) (k : Int) (w : World) (h : Row w a n cap L) :
    Calls Try.prog 51 #[.slice a n cap, .int .i64 k] w fun e w' => e = .returned (.tuple #[.int .u64 ((lookV L k : Nat) : Int), .int .i64 (lookE L k)]) ∧ w' = w := by
  by_cases h1 : k = 1
  · subst h1
    go_enter Try.func51, Try.ntmps51
    go_wp2_with (first | (go_at_call 58; refine (wide8 _ _ _ L _ h).mono ?_; rintro e w1 ⟨rfl, rfl⟩))
    exact bodyPost_ret (v := .tuple #[.int .u64 ((getV L 1 : Nat) : Int), .int .i64 (getE L 1)]) (by simp [results, Try.results51, go_sem]) rfl ⟨rfl, rfl⟩
  by_cases h2 : k = 2
  · subst h2
    go_enter Try.func51, Try.ntmps51
    go_wp2_with (first | (go_at_call 59; refine (wide16 _ _ _ L _ h).mono ?_; rintro e w1 ⟨rfl, rfl⟩))
    exact bodyPost_ret (v := .tuple #[.int .u64 ((getV L 2 : Nat) : Int), .int .i64 (getE L 2)]) (by simp [results, Try.results51, go_sem]) rfl ⟨rfl, rfl⟩
  by_cases h4 : k = 4
  · subst h4
    go_enter Try.func51, Try.ntmps51
    go_wp2_with (first | (go_at_call 60; refine (wide32 _ _ _ L _ h).mono ?_; rintro e w1 ⟨rfl, rfl⟩))
    exact bodyPost_ret (v := .tuple #[.int .u64 ((getV L 4 : Nat) : Int), .int .i64 (getE L 4)]) (by simp [results, Try.results51, go_sem]) rfl ⟨rfl, rfl⟩
  by_cases h8 : k = 8
  · subst h8
    go_enter Try.func51, Try.ntmps51
    go_wp2_with (first | (go_at_call 61; refine (wide64 _ _ _ L _ h).mono ?_; rintro e w1 ⟨rfl, rfl⟩))
    exact bodyPost_ret (v := .tuple #[.int .u64 ((getV L 8 : Nat) : Int), .int .i64 (getE L 8)]) (by simp [results, Try.results51, go_sem]) rfl ⟨rfl, rfl⟩
  have hno : ¬ okW k := by unfold okW; omega
  have e1 : lookV L k = 0 := by unfold lookV; rw [if_neg hno]
  have e2 : lookE L k = 5 := by unfold lookE; rw [if_neg hno]
  rw [e1, e2]
  have b1 : (k == 1) = false := by simp; omega
  have b2 : (k == 2) = false := by simp; omega
  have b4 : (k == 4) = false := by simp; omega
  have b8 : (k == 8) = false := by simp; omega
  clear h1 h2 h4 h8 hno
  go_enter Try.func51, Try.ntmps51
  go_wp2
  exact bodyPost_ret (v := .tuple #[.int .u64 0, .int .i64 5]) (by simp [results, Try.results51, go_sem]) rfl ⟨rfl, rfl⟩
theorem look_ok {L : List Nat} {k : Int} (h : lookE L k = 0) : okW k ∧ k.toNat ≤ L.length ∧ (k.toNat : Int) = k ∧ lookV L k = valL (L.take k.toNat) := by
  unfold lookE at h
  split at h
  · rename_i hk
    unfold getE at h
    split at h
    · omega
    · rename_i hl
      refine ⟨hk, by omega, ?_, ?_⟩
      · unfold okW at hk; omega
      · unfold lookV getV; rw [if_pos hk, if_neg hl]
  · omega
theorem look_bad {L : List Nat} {k : Int} (h : lookE L k ≠ 0) : lookV L k = 0 := by
  unfold lookE at h
  unfold lookV
  split
  · rename_i hk
    rw [if_pos hk] at h
    unfold getE at h
    unfold getV
    split
    · rfl
    · rename_i hl; rw [if_neg hl] at h; omega
  · rfl
theorem lookV_lt (L : List Nat) (k : Int) (hs : ∀ x ∈ L, x < 256) : lookV L k < 18446744073709551616 := by
  unfold lookV
  split
  · rename_i hk
    have h1 := getV_lt L k.toNat hs
    have h2 : (256 : Nat) ^ k.toNat ≤ 256 ^ 8 := Nat.pow_le_pow_right (by omega) (by unfold okW at hk; omega)
    omega
  · omega

theorem Rd.row {w : World} {g gb : Nat} {R : List Nat} {o cap : Nat} (h : Rd w g gb R) (hc : R.length ≤ cap) (hcell : ∀ i (hi : i < R.length), w.cell? ⟨gb, o + i, none⟩ = some (.int .u8 ((R[i] : Nat) : Int))) : Row w (some ⟨gb, o, none⟩) R.length cap R := Row.at rfl hc h.small hcell

def numN (R : List Nat) (k : Int) : Nat := if lookE R k = 0 then k.toNat else 0

set_option maxRecDepth 100000 in
set_option maxHeartbeats 1000000 in
theorem number_any (g gb : Nat) (R : List Nat) (k : Int) (w : World) (h : Rd w g gb R) :
    Calls Try.prog 25 #[.pointer (some ⟨g, 0, none⟩), .int .i64 k] w fun e w' => e = .returned (.tuple #[.int .u64 ((lookV R k : Nat) : Int), .int .i64 (lookE R k)]) ∧ Rd w' g gb (R.drop (numN R k)) ∧ But (· = g) w w' := by
  obtain ⟨o, cap, hl, hc, hcell⟩ := h.ex
  have hl1 := hl.1
  have hrow := h.row hc hcell
  clear hcell
  by_cases hz : lookE R k = 0
  · have hq := look_ok hz
    have hnn : numN R k = k.toNat := by unfold numN; rw [if_pos hz]
    rw [hz, hnn]
    obtain ⟨-, hkl, hk, -⟩ := hq
    have HK : Hid ((k.toNat : Int) = k) := hk
    clear hk
    go_enter Try.func25, Try.ntmps25
    go_wp2_with (first | (go_at_call 51; refine (look_any _ _ _ R k _ hrow).mono ?_; rintro e w1 ⟨rfl, rfl⟩) | (go_at_call 40; rw [show Value.int IntKind.i64 k = .int .i64 (k.toNat : Int) by rw [HK.out]]; refine (take_any g gb R k.toNat _ h hkl).mono ?_; rintro e w2 ⟨rfl, hrd, hbut⟩))
    exact bodyPost_ret (v := .tuple #[.int .u64 ((lookV R k : Nat) : Int), .int .i64 0]) (by simp [results, Try.results25, go_sem]) rfl ⟨rfl, hrd, hbut⟩
  · have hq := look_bad hz
    have hnn : numN R k = 0 := by unfold numN; rw [if_neg hz]
    have hbz : (lookE R k == 0) = false := by simpa using hz
    have hbz2 : (lookE R k != 0) = true := by simpa using hz
    rw [hq, hnn]
    go_enter Try.func25, Try.ntmps25
    go_wp2_with (first | (go_at_call 51; refine (look_any _ _ _ R k _ hrow).mono ?_; rintro e w1 ⟨rfl, rfl⟩))
    exact bodyPost_ret (v := .tuple #[.int .u64 0, .int .i64 (lookE R k)]) (by simp [results, Try.results25, go_sem]) rfl ⟨rfl, by simpa using h, But.refl _ _⟩

def intE (R : List Nat) (k m : Int) : Int := if m < 0 then 5 else if lookE R k ≠ 0 then lookE R k else if m < ((lookV R k : Nat) : Int) then 5 else 0
def intV (R : List Nat) (k m : Int) : Nat := if intE R k m = 0 then lookV R k else 0
def intN (R : List Nat) (k m : Int) : Nat := if intE R k m = 0 then k.toNat else 0

set_option maxRecDepth 100000 in
set_option maxHeartbeats 1000000 in
theorem int_any (g gb : Nat) (R : List Nat) (k m : Int) (w : World) (h : Rd w g gb R) (hm : m < 9223372036854775808) :
    Calls Try.prog 36 #[.pointer (some ⟨g, 0, none⟩), .int .i64 k, .int .i64 m] w fun e w' => e = .returned (.tuple #[.int .i64 ((intV R k m : Nat) : Int), .int .i64 (intE R k m)]) ∧ Rd w' g gb (R.drop (intN R k m)) ∧ But (· = g) w w' := by
  obtain ⟨o, cap, hl, hc, hcell⟩ := h.ex
  have hl1 := hl.1
  have hrow := h.row hc hcell
  clear hcell
  by_cases hm0 : m < 0
  · have e1 : intE R k m = 5 := by unfold intE; rw [if_pos hm0]
    have e2 : intV R k m = 0 := by unfold intV; rw [e1, if_neg (by omega)]
    have e3 : intN R k m = 0 := by unfold intN; rw [e1, if_neg (by omega)]
    rw [e1, e2, e3]
    go_enter Try.func36, Try.ntmps36
    go_wp2
    exact bodyPost_ret (v := .tuple #[.int .i64 0, .int .i64 5]) (by simp [results, Try.results36, go_sem]) rfl ⟨rfl, by simpa using h, But.refl _ _⟩
  have hm1 : 0 ≤ m := by omega
  have ewm : IntKind.u64.wrap m = m := by rw [IntKind.wrap_u64]; omega
  by_cases hz : lookE R k = 0
  · have hq := look_ok hz
    obtain ⟨-, hkl, hk, -⟩ := hq
    have HK : Hid ((k.toNat : Int) = k) := hk
    clear hk
    by_cases hgt : m < ((lookV R k : Nat) : Int)
    · have e1 : intE R k m = 5 := by unfold intE; rw [if_neg hm0, if_neg (by omega), if_pos hgt]
      have e2 : intV R k m = 0 := by unfold intV; rw [e1, if_neg (by omega)]
      have e3 : intN R k m = 0 := by unfold intN; rw [e1, if_neg (by omega)]
      rw [e1, e2, e3]
      have hd : decide (m < ((lookV R k : Nat) : Int)) = true := decide_eq_true hgt
      clear hkl
      go_enter Try.func36, Try.ntmps36
      go_wp2_with (first | (go_at_call 51; refine (look_any _ _ _ R k _ hrow).mono ?_; rintro e w1 ⟨rfl, rfl⟩))
      exact bodyPost_ret (v := .tuple #[.int .i64 0, .int .i64 5]) (by simp [results, Try.results36, go_sem]) rfl ⟨rfl, by simpa using h, But.refl _ _⟩
    · have e1 : intE R k m = 0 := by unfold intE; rw [if_neg hm0, if_neg (by omega), if_neg hgt]
      have e2 : intV R k m = lookV R k := by unfold intV; rw [if_pos e1]
      have e3 : intN R k m = k.toNat := by unfold intN; rw [if_pos e1]
      rw [e1, e2, e3]
      have hd : decide (m < ((lookV R k : Nat) : Int)) = false := decide_eq_false hgt
      have ewv : IntKind.i64.wrap ((lookV R k : Nat) : Int) = ((lookV R k : Nat) : Int) := by rw [IntKind.wrap_i64]; omega
      go_enter Try.func36, Try.ntmps36
      go_wp2_with (first | (go_at_call 51; refine (look_any _ _ _ R k _ hrow).mono ?_; rintro e w1 ⟨rfl, rfl⟩) | (go_at_call 40; rw [show Value.int IntKind.i64 k = .int .i64 (k.toNat : Int) by rw [HK.out]]; refine (take_any g gb R k.toNat _ h hkl).mono ?_; rintro e w2 ⟨rfl, hrd, hbut⟩))
      exact bodyPost_ret (v := .tuple #[.int .i64 ((lookV R k : Nat) : Int), .int .i64 0]) (by simp [results, Try.results36, go_sem]) rfl ⟨rfl, hrd, hbut⟩
  · have e1 : intE R k m = lookE R k := by unfold intE; rw [if_neg hm0, if_pos hz]
    have e2 : intV R k m = 0 := by unfold intV; rw [e1, if_neg hz]
    have e3 : intN R k m = 0 := by unfold intN; rw [e1, if_neg hz]
    have hbz : (lookE R k == 0) = false := by simpa using hz
    have hbz2 : (lookE R k != 0) = true := by simpa using hz
    rw [e1, e2, e3]
    go_enter Try.func36, Try.ntmps36
    go_wp2_with (first | (go_at_call 51; refine (look_any _ _ _ R k _ hrow).mono ?_; rintro e w1 ⟨rfl, rfl⟩))
    exact bodyPost_ret (v := .tuple #[.int .i64 0, .int .i64 (lookE R k)]) (by simp [results, Try.results36, go_sem]) rfl ⟨rfl, by simpa using h, But.refl _ _⟩
end Go.Proofs.Ytjncgpekmilpeaa
