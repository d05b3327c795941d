import Derived.Test.YtlelglfdamakaaaA1
import Derived.Test.YtlelglfdamakaaaMO
import Derived.WalkKit
import Derived.WalkSpells
import Derived.WalkLawsBesides
import Derived.Deep.RegionHeld3
import Derived.Deep.QuietTactic
import Derived.BigQuiet
import Derived.WalkMore
namespace Go.Proofs.Ytlelglfdamakaaa.H
open Go.RowKit


theorem step_val (h v : Nat) (hh : h < B64) (hv : v < B64) :
    bits .xor .u64 (IntKind.u64.wrap (bits .xor .u64 (h : Int) (v : Int) * 11400714819323198485)) (IntKind.u64.wrap (bits .xor .u64 (h : Int) (v : Int) * 11400714819323198485) / 536870912) = (stepN h v : Int) := by
  have e1 : IntKind.u64.wrap (bits .xor .u64 (h : Int) (v : Int) * 11400714819323198485) = (mulN (h ^^^ v) : Int) := by
    rw [u64_xor_nat h v hh hv, IntKind.wrap_u64]
    unfold mulN KF B64
    omega
  have e2 : ((mulN (h ^^^ v) : Nat) : Int) / 536870912 = ((mulN (h ^^^ v) / 2 ^ 29 : Nat) : Int) := by omega
  rw [e1, e2, u64_xor_nat _ _ (mulN_lt _) (Nat.lt_of_le_of_lt (Nat.div_le_self _ _) (mulN_lt _))]
  rfl
theorem step_any (h v : Nat) (w : World) (hh : h < B64) (hv : v < B64) :
    Calls Try.prog 98 #[.int .u64 (h : Int), .int .u64 (v : Int)] w fun e w' => e = .returned (.int .u64 (stepN h v : Int)) ∧ w' = w := by
  have HS : Hid _ := step_val h v hh hv
  go_enter Try.func98, Try.ntmps98
  go_wp2
  go_ret
  exact ⟨ret_int HS.out, rfl⟩
theorem u64_low (h n : Nat) (hh : h < B64) (hn : n ≤ 63) :
    bits .and .u64 (h : Int) (IntKind.u64.wrap (IntKind.u64.wrap (2 ^ n) - 1)) = ((h % 2 ^ n : Nat) : Int) := by
  have h2 : (2 : Nat) ^ n ≤ 2 ^ 63 := Nat.pow_le_pow_right (by omega) hn
  have hp : 0 < (2 : Nat) ^ n := Nat.two_pow_pos n
  have e1 : ((2 : Int) ^ n) = ((2 ^ n : Nat) : Int) := by simp
  have e2 : IntKind.u64.wrap (IntKind.u64.wrap (2 ^ n) - 1) = ((2 ^ n - 1 : Nat) : Int) := by
    rw [e1, IntKind.wrap_u64, IntKind.wrap_u64]
    omega
  rw [e2, u64_and_nat _ _ hh (by omega), Nat.and_two_pow_sub_one_eq_mod]
theorem lowN_none {h : Nat} {k : Int} (h1 : k ≤ 0) : lowN h k = 0 := by unfold lowN; rw [if_pos h1]
theorem lowN_all {h : Nat} {k : Int} (h1 : 64 ≤ k) : lowN h k = h := by unfold lowN; rw [if_neg (by omega), if_pos h1]
theorem lowN_some {h : Nat} {k : Int} (h1 : ¬ k ≤ 0) (h2 : ¬ 64 ≤ k) : lowN h k = h % 2 ^ k.toNat := by unfold lowN; rw [if_neg h1, if_neg h2]
theorem lowest_any (h : Nat) (k : Int) (w : World) (hh : h < B64) :
    Calls Try.prog 99 #[.int .u64 (h : Int), .int .i64 k] w fun e w' => e = .returned (.int .u64 (lowN h k : Int)) ∧ w' = w := by
  by_cases h1 : k ≤ 0
  · rw [lowN_none h1]
    go_enter Try.func99, Try.ntmps99
    go_wp2
    go_ret
    exact ⟨rfl, rfl⟩
  · by_cases h2 : 64 ≤ k
    · rw [lowN_all h2]
      go_enter Try.func99, Try.ntmps99
      go_wp2
      go_ret
      exact ⟨rfl, rfl⟩
    · rw [lowN_some h1 h2]
      have HL : Hid _ := u64_low h k.toNat hh (by omega)
      go_enter Try.func99, Try.ntmps99
      go_wp2
      go_ret
      exact ⟨ret_int HL.out, rfl⟩

/-- A number of 64 bits with a sign, as its bits. -/
def objN (o : Int) : Nat := (o % 18446744073709551616).toNat
theorem objN_lt (o : Int) : objN o < B64 := by unfold objN B64; omega
theorem objN_val (o : Int) : IntKind.u64.wrap o = (objN o : Int) := by rw [IntKind.wrap_u64]; unfold objN; omega
/-- What stands in h behind so many rounds. -/
def HashRel (W : World) (x1 x2 x3 : Nat) (s t : Value) (w' : World) : Prop :=
  w' = W ∧ ((t = .int .i64 0 ∧ s = .int .u64 5903417616801668165) ∨ (t = .int .i64 1 ∧ s = .int .u64 (x1 : Int)) ∨ (t = .int .i64 2 ∧ s = .int .u64 (x2 : Int)) ∨ (t = .int .i64 3 ∧ s = .int .u64 (x3 : Int)))
theorem step_at {y x : Int} {h v : Nat} (w : World) (r : Nat) (hr : r = stepN h v) (hy : y = (h : Int)) (hx : x = (v : Int)) (hh : h < B64) (hv : v < B64) :
    Calls Try.prog 98 #[.int .u64 y, .int .u64 x] w fun e w' => e = .returned (.int .u64 (r : Int)) ∧ w' = w := by
  subst hy hx hr; exact step_any h v w hh hv
theorem start_val : (5903417616801668165 : Int) = ((5903417616801668165 : Nat) : Int) := rfl
theorem start_lt : (5903417616801668165 : Nat) < B64 := by decide
set_option maxRecDepth 100000 in
set_option maxHeartbeats 1000000 in
theorem hash_walk (o : Int) (n a b x1 x2 x3 : Nat) (k : Int) (w : World) (ha : a < B64) (hb : b < B64) (hn : n < B64)
    (h1 : x1 < B64) (h2 : x2 < B64) (h3 : x3 < B64) (ho : Hid (IntKind.u64.wrap o = (n : Int))) (e1 : Hid (x1 = stepN 5903417616801668165 n)) (e2 : Hid (x2 = stepN x1 a)) (e3 : Hid (x3 = stepN x2 b)) :
    Calls Try.prog 95 #[.int .i64 o, .agg #[.int .u64 (a : Int), .int .u64 (b : Int)], .int .i64 k] w fun e w' => e = .returned (.int .u64 (lowN x3 k : Int)) ∧ Below w.heap.size w w' := by
  go_enter Try.func95, Try.ntmps95
  go_wp2
  go_step3
  go_wp2
  go_step3
  go_wp2
  go_loopw [7, 8] (HashRel (w.alloc (Obj.cells #[.int .u64 (a : Int), .int .u64 (b : Int)] 30)) x1 x2 x3) (fun _ t _ => (3 - intOf t).toNat)
  case atStart => exact ⟨rfl, .inl ⟨rfl, rfl⟩⟩
  case round =>
    obtain ⟨rfl, ⟨rfl, rfl⟩ | ⟨rfl, rfl⟩ | ⟨rfl, rfl⟩ | ⟨rfl, rfl⟩⟩ := hrel
    · go_wp2_with (first | (go_at_call 98; refine (step_at _ x1 e1.out start_val ho.out start_lt hn).mono ?_; rintro e w1 ⟨rfl, rfl⟩))
      go_roundw
      case rel => exact ⟨rfl, .inr (.inl ⟨rfl, rfl⟩)⟩
      case measure => simp [intOf]
    · go_wp2_with (first | (go_at_call 98; refine (step_at _ x2 e2.out rfl rfl h1 ha).mono ?_; rintro e w1 ⟨rfl, rfl⟩))
      go_roundw
      case rel => exact ⟨rfl, .inr (.inr (.inl ⟨rfl, rfl⟩))⟩
      case measure => simp [intOf]
    · go_wp2_with (first | (go_at_call 98; refine (step_at _ x3 e3.out rfl rfl h2 hb).mono ?_; rintro e w1 ⟨rfl, rfl⟩))
      go_roundw
      case rel => exact ⟨rfl, .inr (.inr (.inr ⟨rfl, rfl⟩))⟩
      case measure => simp [intOf]
    · go_wp2_with (first | (go_at_call 99; refine (lowest_any _ _ _ h3).mono ?_; rintro e w1 ⟨rfl, rfl⟩))
      try rw [Exit.noGoto_ret]
      go_ret
      exact ⟨rfl, below1 _ _⟩
theorem hash_any (o : Int) (a b : Nat) (k : Int) (w : World) (ha : a < B64) (hb : b < B64) :
    Calls Try.prog 95 #[.int .i64 o, .agg #[.int .u64 (a : Int), .int .u64 (b : Int)], .int .i64 k] w fun e w' => e = .returned (.int .u64 (lowN (hashN (objN o) a b) k : Int)) ∧ Below w.heap.size w w' :=
  hash_walk o (objN o) a b _ _ (hashN (objN o) a b) k w ha hb (objN_lt o) (stepN_lt _ _) (stepN_lt _ _) (hashN_lt _ _ _) (objN_val o) rfl rfl rfl
end Go.Proofs.Ytlelglfdamakaaa.H
namespace Go.Proofs.Ytlelglfdamakaaa.H.I
open Go.RowKit
set_option linter.unusedVariables false

abbrev Q := Pl Int
/-- A place in memory. -/
structure Pa (w : World) (b o : Nat) (p : Q) : Prop where
  c0 : w.cell? ⟨b, o, none⟩ = some (.int .i64 p.k)
  c1 : w.cell? ⟨b, o + 1, none⟩ = some (.int .i64 p.c.1)
  c2 : w.cell? ⟨b, o + 2, none⟩ = some (.int .u64 (p.c.2.1 : Int))
  c3 : w.cell? ⟨b, o + 3, none⟩ = some (.int .u64 (p.c.2.2 : Int))
  c4 : w.cell? ⟨b, o + 4, none⟩ = some (.int .i64 p.v)
theorem Pa.but {S : Nat → Prop} {w w' : World} {b o : Nat} {p : Q} (hb : But S w w') (h : Pa w b o p) (hn : ¬ S b) : Pa w' b o p :=
  ⟨cell_but hb h.c0 hn, cell_but hb h.c1 hn, cell_but hb h.c2 hn, cell_but hb h.c3 hn, cell_but hb h.c4 hn⟩
/-- The table in memory: its places, knob, most, live, spare. -/
structure Tm (w : World) (g gb : Nat) (kn mo : Nat) (li sp : Int) (N : Nat) (L : List Q) : Prop where
  a0 : w.cell? ⟨g, 0, none⟩ = some (.slice (some ⟨gb, 0, none⟩) N N)
  a1 : w.cell? ⟨g, 1, none⟩ = some (.int .i64 (kn : Int))
  a2 : w.cell? ⟨g, 2, none⟩ = some (.int .i64 (mo : Int))
  a3 : Lies w ⟨g, 3, none⟩ (.int .i64 li)
  a4 : Lies w ⟨g, 4, none⟩ (.int .i64 sp)
  fr : ∀ j, w.frozen? ⟨gb, j, none⟩ = false
  at_ : ∀ (i : Nat) (p : Q), L[i]? = some p → Pa w gb (i * 5) p
  ne : g ≠ gb
  len : L.length = N
  pos : 0 < N
  big : N ≤ 1024
  ok : ∀ (i : Nat) (p : Q), L[i]? = some p → p.c.2.1 < B64 ∧ p.c.2.2 < B64
theorem Tm.lt {w : World} {g gb kn mo : Nat} {li sp : Int} {N : Nat} {L : List Q} (h : Tm w g gb kn mo li sp N L) : g < w.heap.size := World.block_lt_of_cell? _ _ h.a1
theorem Tm.lt2 {w : World} {g gb kn mo : Nat} {li sp : Int} {N : Nat} {L : List Q} (h : Tm w g gb kn mo li sp N L) : gb < w.heap.size := by
  obtain ⟨p, hp⟩ := get_some (L := L) (i := 0) (by rw [h.len]; exact h.pos)
  exact World.block_lt_of_cell? _ _ (h.at_ 0 p hp).c0
theorem Tm.but {S : Nat → Prop} {w w' : World} {g gb kn mo : Nat} {li sp : Int} {N : Nat} {L : List Q} (hb : But S w w') (h : Tm w g gb kn mo li sp N L) (h1 : ¬ S g) (h2 : ¬ S gb) : Tm w' g gb kn mo li sp N L :=
  ⟨cell_but hb h.a0 h1, cell_but hb h.a1 h1, cell_but hb h.a2 h1, h.a3.but hb h1, h.a4.but hb h1, fun j => by rw [World.frozen?_of_block (w := w) (hb.block gb h.lt2 h2)]; exact h.fr j, fun i p hp => (h.at_ i p hp).but hb h2, h.ne, h.len, h.pos, h.big, h.ok⟩
theorem Tm.later {w w' : World} {g gb kn mo : Nat} {li sp : Int} {N : Nat} {L : List Q} (hb : Below w.heap.size w w') (h : Tm w g gb kn mo li sp N L) : Tm w' g gb kn mo li sp N L := h.but (S := fun _ => False) (But.of hb) (fun h => h) (fun h => h)
theorem Tm.alloc {w : World} {g gb kn mo : Nat} {li sp : Int} {N : Nat} {L : List Q} (h : Tm w g gb kn mo li sp N L) (o : Obj) : Tm (w.alloc o) g gb kn mo li sp N L := h.later (below1 _ _)
/-- A capability as a value. -/
def hm (kn N : Nat) (c : Cp) : Nat := lowN (hashN (objN c.1) c.2.1 c.2.2) (kn : Int) % N
theorem hm_lt {kn N : Nat} (c : Cp) (h : 0 < N) : hm kn N c < N := Nat.mod_lt _ h

theorem cast_mod (x N : Nat) (hx : x < B64) (h : 0 < N) (hN : N ≤ 1024) : IntKind.i64.wrap ((x : Int) % (N : Int)) = ((x % N : Nat) : Int) := by
  have h2 : x % N < N := Nat.mod_lt _ h
  rw [← Int.natCast_emod, IntKind.wrap_i64]
  omega
set_option maxRecDepth 100000 in
set_option maxHeartbeats 1000000 in
theorem next_any {w : World} {g gb kn mo : Nat} {li sp : Int} {N : Nat} {L : List Q} (h : Tm w g gb kn mo li sp N L) (at_ : Nat) (ha : at_ < N) :
    Calls Try.prog 88 #[.pointer (some ⟨g, 0, none⟩), .int .i64 (at_ : Int)] w fun e w' => e = .returned (.int .i64 (((at_ + 1) % N : Nat) : Int)) ∧ w' = w := by
  have x := h.a0
  have hp := h.pos
  have hb := h.big
  have HE : Hid (((at_ + 1) % N : Nat) = ((((at_ + 1 : Nat) : Int).tmod (N : Int)))) := by unfold Hid; rw [Int.tmod_eq_emod_of_nonneg (by omega)]; rfl
  clear h
  go_enter Try.func88, Try.ntmps88
  go_wp2
  go_ret
  exact ⟨ret_int (by rw [HE.out]; rfl), rfl⟩
set_option maxRecDepth 100000 in
set_option maxHeartbeats 1000000 in
theorem rare_any {w : World} {g gb kn mo : Nat} {li : Int} {sp : Nat} {N : Nat} {L : List Q} (h : Tm w g gb kn mo li sp N L) (hs : sp ≤ 1024) :
    Calls Try.prog 84 #[.pointer (some ⟨g, 0, none⟩)] w fun e w' => e = .returned (.bool (decide (4 * sp < N))) ∧ Below w.heap.size w w' := by
  have x := h.a0
  have y := h.a4.1
  have hb := h.big
  clear h
  go_enter Try.func84, Try.ntmps84
  go_wp2
  go_quiet (fail)
  go_wp2
  go_ret
  exact ⟨ret_bool (by simp; omega), below_drewN (Below.refl _ _) _⟩
set_option maxRecDepth 100000 in
set_option maxHeartbeats 1000000 in
theorem len_any {w : World} {g gb kn mo : Nat} {li sp : Int} {N : Nat} {L : List Q} (h : Tm w g gb kn mo li sp N L) :
    Calls Try.prog 69 #[.pointer (some ⟨g, 0, none⟩)] w fun e w' => e = .returned (.int .i64 li) ∧ w' = w := by
  have y := h.a3.1
  clear h
  go_enter Try.func69, Try.ntmps69
  go_wp2
  go_ret
  exact ⟨rfl, rfl⟩
set_option maxRecDepth 100000 in
set_option maxHeartbeats 1000000 in
theorem first_any {w : World} {g gb kn mo : Nat} {li sp : Int} {N : Nat} {L : List Q} (h : Tm w g gb kn mo li sp N L) (o : Int) (hi lo : Nat) (h1 : hi < B64) (h2 : lo < B64) :
    Calls Try.prog 87 #[.pointer (some ⟨g, 0, none⟩), .agg #[.int .i64 o, .int .u64 (hi : Int), .int .u64 (lo : Int)]] w fun e w' => e = .returned (.int .i64 (hm kn N (o, hi, lo) : Int)) ∧ Below w.heap.size w w' := by
  obtain ⟨w1, hw1⟩ : ∃ w1, w1 = w.alloc (Obj.cells #[.int .i64 o, .int .u64 (hi : Int), .int .u64 (lo : Int)] 32) := ⟨_, rfl⟩
  have hB1 : Below w.heap.size w w1 := by rw [hw1]; exact below1 _ _
  have hh := h.later hB1
  have hC : Hid (∀ U : World, Below w1.heap.size w1 U → (U.cell? ⟨w.heap.size, 0, none⟩ = some (.int .i64 o) ∧ U.cell? ⟨w.heap.size, 1, none⟩ = some (.int .u64 (hi : Int)) ∧ U.cell? ⟨w.heap.size, 2, none⟩ = some (.int .u64 (lo : Int)) ∧ U.cell? ⟨g, 0, none⟩ = some (.slice (some ⟨gb, 0, none⟩) N N) ∧ U.cell? ⟨g, 1, none⟩ = some (.int .i64 (kn : Int))) ∧ Below w1.heap.size w1 U) := fun U hU =>
    ⟨⟨cell_later hU (by rw [hw1]; simp [go_sem]), cell_later hU (by rw [hw1]; simp [go_sem]), cell_later hU (by rw [hw1]; simp [go_sem]), cell_later hU hh.a0, cell_later hU hh.a1⟩, hU⟩
  have hp := h.pos
  have hb := h.big
  have HX : Hid (lowN (hashN (objN o) hi lo) (kn : Int) < B64) := lowN_lt _ (hashN_lt _ _ _)
  have HM : Hid (hm kn N (o, hi, lo) = lowN (hashN (objN o) hi lo) (kn : Int) % N) := rfl
  have hH := fun W => hash_any o hi lo (kn : Int) W h1 h2
  generalize lowN (hashN (objN o) hi lo) (kn : Int) = x at HX HM hH
  have HR := hid (cast_mod x N HX.out hp hb)
  have hu : IntKind.u64.wrap (N : Int) = (N : Int) := by rw [IntKind.wrap_u64]; omega
  have hz : ¬ N = 0 := by omega
  clear h hh
  go_enter Try.func87, Try.ntmps87
  go_wp2
  rw [← hw1]
  have HB1 := hid hB1
  clear hw1 hB1
  go_region_held3 (fun U => (U.cell? ⟨w.heap.size, 0, none⟩ = some (.int .i64 o) ∧ U.cell? ⟨w.heap.size, 1, none⟩ = some (.int .u64 (hi : Int)) ∧ U.cell? ⟨w.heap.size, 2, none⟩ = some (.int .u64 (lo : Int)) ∧ U.cell? ⟨g, 0, none⟩ = some (.slice (some ⟨gb, 0, none⟩) N N) ∧ U.cell? ⟨g, 1, none⟩ = some (.int .i64 (kn : Int))) ∧ Below w1.heap.size w1 U) (first | exact hC.out _ (Below.refl _ _).drew | exact hC.out _ hb2.out) (first | (go_at_call 95; refine (hH _).mono ?_; rintro e w2 ⟨rfl, hb2'⟩; have hb2 := hid (below_call (Below.refl w1.heap.size w1).drew hb2')))
  go_wp2
  go_ret
  exact ⟨ret_int (by rw [HM.out]; exact HR.out), below_call HB1.out (And.right (by assumption))⟩
end Go.Proofs.Ytlelglfdamakaaa.H.I
namespace Go.Proofs.Ytlelglfdamakaaa.H
open Go.RowKit
set_option linter.unusedVariables false

theorem below_drewN {k : Nat} {w W : World} (h : Below k w W) (q : Nat) : Below k w (W.drewN q) := ⟨h.os, h.tape, h.output, h.size, h.block⟩
/-- A capability in a block of its own. -/
structure Bx (w : World) (b : Nat) (o : Int) (hi lo : Nat) : Prop where
  c0 : w.cell? ⟨b, 0, none⟩ = some (.int .i64 o)
  c1 : w.cell? ⟨b, 1, none⟩ = some (.int .u64 (hi : Int))
  c2 : w.cell? ⟨b, 2, none⟩ = some (.int .u64 (lo : Int))
theorem Bx.new (w : World) (o : Int) (hi lo : Nat) : Bx (w.alloc (Obj.cells #[.int .i64 o, .int .u64 (hi : Int), .int .u64 (lo : Int)] 32)) w.heap.size o hi lo :=
  ⟨by simp [go_sem], by simp [go_sem], by simp [go_sem]⟩
theorem Bx.but {S : Nat → Prop} {w w' : World} {b : Nat} {o : Int} {hi lo : Nat} (hb : But S w w') (h : Bx w b o hi lo) (hn : ¬ S b) : Bx w' b o hi lo := ⟨cell_but hb h.c0 hn, cell_but hb h.c1 hn, cell_but hb h.c2 hn⟩
theorem Bx.later {w w' : World} {b : Nat} {o : Int} {hi lo : Nat} (hb : Below w.heap.size w w') (h : Bx w b o hi lo) : Bx w' b o hi lo := h.but (S := fun _ => False) (But.of hb) (fun h => h)
/-- Are they the same? -/
def cEq (a b c d e f : Int) : Bool := decide (a = d ∧ b = e ∧ c = f)
theorem eqlC (a b c d e f : Int) (w : World) : (binOp .eql 32 (.agg #[.int .i64 a, .int .u64 b, .int .u64 c]) (.agg #[.int .i64 d, .int .u64 e, .int .u64 f])).run Try.prog w = .ok (.bool (cEq a b c d e f)) w := by
  unfold cEq
  by_cases h1 : a = d
  · subst h1
    by_cases h2 : b = e
    · subst h2
      by_cases h3 : c = f
      · subst h3; simp [go_sem]
      · simp [go_sem, h3]
    · simp [go_sem, h2]
  · simp [go_sem, h1]
theorem neqC (a b c d e f : Int) (w : World) : (binOp .neq 32 (.agg #[.int .i64 a, .int .u64 b, .int .u64 c]) (.agg #[.int .i64 d, .int .u64 e, .int .u64 f])).run Try.prog w = .ok (.bool (!cEq a b c d e f)) w := by
  unfold cEq
  by_cases h1 : a = d
  · subst h1
    by_cases h2 : b = e
    · subst h2
      by_cases h3 : c = f
      · subst h3; simp [go_sem]
      · simp [go_sem, h3]
    · simp [go_sem, h2]
  · simp [go_sem, h1]
end Go.Proofs.Ytlelglfdamakaaa.H
