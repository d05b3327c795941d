import Derived.Test.YthlojdclncikiaaC1
namespace Go.Proofs.Ythlojdclncikiaa
open Go.RowKit

theorem step_fits {y x : Int} {h v r : Nat} (hr : r = stepN h v) (hy : y = (h : Int)) (hx : x = (v : Int)) (hh : h < B64) (hv : v < B64) :
    Value.int .u64 (bits .xor .u64 (IntKind.u64.wrap (bits .xor .u64 y x * 11400714819323198485)) (IntKind.u64.wrap (bits .xor .u64 y x * 11400714819323198485) / 536870912)) = .int .u64 (r : Int) := by
  subst hy hx hr; rw [step_val h v hh hv]
theorem pow_val {k : Int} (h1 : ¬ k ≤ 0) (h2 : ¬ 64 ≤ k) : IntKind.u64.wrap (2 ^ k.toNat) = ((2 ^ k.toNat : Nat) : Int) := by
  have h3 : (2 : Nat) ^ k.toNat ≤ 2 ^ 63 := Nat.pow_le_pow_right (by omega) (by omega)
  have e1 : ((2 : Int) ^ k.toNat) = ((2 ^ k.toNat : Nat) : Int) := by simp
  rw [e1, IntKind.wrap_u64]
  have hp : 0 < (2 : Nat) ^ k.toNat := Nat.two_pow_pos _
  omega
theorem pow_pos64 {k : Int} (h1 : ¬ k ≤ 0) (h2 : ¬ 64 ≤ k) : ¬ IntKind.u64.wrap (2 ^ k.toNat) = 0 := by
  rw [pow_val h1 h2]
  have : 0 < (2 : Nat) ^ k.toNat := Nat.two_pow_pos _
  omega
theorem low_rem {h : Nat} {k : Int} (h1 : ¬ k ≤ 0) (h2 : ¬ 64 ≤ k) : (h : Int) % IntKind.u64.wrap (2 ^ k.toNat) = (lowN h k : Int) := by
  rw [pow_val h1 h2, lowN_some h1 h2]
  simp
set_option maxRecDepth 100000 in
set_option maxHeartbeats 1000000 in
theorem rhash_walk (o : Int) (n a b x1 x2 x3 : Nat) (k : Int) (w : World) (ha : a < B64) (hb : b < B64) (hn : n < B64)
    (h1 : x1 < B64) (h2 : x2 < B64) (ho : Hid (IntKind.u64.wrap o = (n : Int))) (e1 : Hid (x1 = stepN 5903417616801668165 n)) (e2 : Hid (x2 = stepN x1 a)) (e3 : Hid (x3 = stepN x2 b)) :
    Calls Try.prog 28 #[.int .i64 o, .agg #[.int .u64 (a : Int), .int .u64 (b : Int)], .int .i64 k] w fun e w' => e = .returned (.int .u64 (lowN x3 k : Int)) ∧ Below w.heap.size w w' := by
  go_enter Try.func28, Try.ntmps28
  go_wp2
  go_loopw [7, 9] (HashRel ((w.alloc (Obj.cells #[.int .u64 (a : Int), .int .u64 (b : Int)] 32)).alloc (Obj.cells #[.int .u64 (IntKind.u64.wrap o), .int .u64 (a : Int), .int .u64 (b : Int)] 73)) x1 x2 x3) (fun _ t _ => (3 - intOf t).toNat)
  case atStart => exact ⟨rfl, .inl ⟨rfl, rfl⟩⟩
  case round =>
    obtain ⟨rfl, ⟨rfl, rfl⟩ | ⟨rfl, rfl⟩ | ⟨rfl, rfl⟩ | ⟨rfl, rfl⟩⟩ := hrel
    · go_wp2
      go_roundw
      case rel => exact ⟨rfl, .inr (.inl ⟨rfl, step_fits e1.out start_val ho.out start_lt hn⟩)⟩
      case measure => simp [intOf]
    · go_wp2
      go_roundw
      case rel => exact ⟨rfl, .inr (.inr (.inl ⟨rfl, step_fits e2.out rfl rfl h1 ha⟩))⟩
      case measure => simp [intOf]
    · go_wp2
      go_roundw
      case rel => exact ⟨rfl, .inr (.inr (.inr ⟨rfl, step_fits e3.out rfl rfl h2 hb⟩))⟩
      case measure => simp [intOf]
    · by_cases k1 : k ≤ 0
      · have HL : Hid (lowN x3 k = 0) := lowN_none k1
        go_wp2
        go_ret
        exact ⟨by rw [HL.out]; rfl, below2 _ _ _⟩
      · by_cases k2 : 64 ≤ k
        · have HL : Hid (lowN x3 k = x3) := lowN_all k2
          go_wp2
          go_ret
          exact ⟨by rw [HL.out]; rfl, below2 _ _ _⟩
        · have HV : Hid _ := low_rem (h := x3) k1 k2
          have hnz := pow_pos64 k1 k2
          go_wp2
          go_ret
          exact ⟨ret_int HV.out, below2 _ _ _⟩
theorem rhash_any (o : Int) (a b : Nat) (k : Int) (w : World) (ha : a < B64) (hb : b < B64) :
    Calls Try.prog 28 #[.int .i64 o, .agg #[.int .u64 (a : Int), .int .u64 (b : Int)], .int .i64 k] w fun e w' => e = .returned (.int .u64 (lowN (hashN (objN o) a b) k : Int)) ∧ Below w.heap.size w w' :=
  rhash_walk o (objN o) a b _ _ (hashN (objN o) a b) k w ha hb (objN_lt o) (stepN_lt _ _) (stepN_lt _ _) (objN_val o) rfl rfl rfl
end Go.Proofs.Ythlojdclncikiaa
