import Derived.Laws.BitsAllLaws
import Derived.WalkKit
import Derived.Test.YtgihdchgdejkhaaGreatDoorMO
import Derived.WalkSpells
import Derived.Test.YtgihdchgdejkhaaGreatDoorRows
import Derived.Test.YtgihdchgdejkhaaGreatDoorA1
import Derived.WalkLawsBesides
import Derived.Deep.RegionHeld3
import Derived.Deep.QuietTactic
import Derived.BigQuiet
import Derived.Maps.AppendAt
import Derived.Laws.AppendOwnNone
import Derived.Laws.OwnMore
import Derived.Laws.CopyRow
namespace Go.Proofs.YtgihdchgdejkhaaGreatDoor.D
open Go.Proofs.YtgihdchgdejkhaaGreatDoor.H (B64)
open Go.RowKit

theorem B64_eq : B64 = 2 ^ 64 := rfl

/-- The halves a (upper), b (lower) are those of the number N. -/
structure IsW (a b N : Nat) : Prop where
  ha : a < B64
  hb : b < B64
  hn : N = a * B64 + b

theorem IsW.lt {a b N : Nat} (h : IsW a b N) : N < B64 * B64 := by
  obtain ⟨ha, hb, rfl⟩ := h
  calc a * B64 + b < a * B64 + B64 := by omega
    _ = (a + 1) * B64 := by rw [Nat.add_mul, Nat.one_mul]
    _ ≤ B64 * B64 := Nat.mul_le_mul_right _ ha
theorem IsW.of {N : Nat} (h : N < B64 * B64) : IsW (N / B64) (N % B64) N :=
  ⟨Nat.div_lt_of_lt_mul h, Nat.mod_lt _ (by decide), by rw [Nat.mul_comm]; exact (Nat.div_add_mod N B64).symm⟩
theorem IsW.inj {a b c d N : Nat} (h : IsW a b N) (k : IsW c d N) : a = c ∧ b = d := by
  obtain ⟨ha, hb, hn⟩ := h
  obtain ⟨hc, hd, hm⟩ := k
  unfold B64 at *
  omega
theorem IsW.inj' {a b N M : Nat} (h : IsW a b N) (k : IsW a b M) : N = M := by rw [h.hn, k.hn]
theorem IsW.zero : IsW 0 0 0 := ⟨by decide, by decide, rfl⟩
theorem IsW.eq_iff {a b c d N M : Nat} (h : IsW a b N) (k : IsW c d M) : N = M ↔ a = c ∧ b = d := by
  constructor
  · rintro rfl; exact h.inj k
  · rintro ⟨rfl, rfl⟩; exact h.inj' k
/-! ### Cut, by numbers -/
def cutN (N : Nat) (width : Int) : Nat := N % 2 ^ width.toNat

theorem u64_low (h n : Nat) (hh : h < B64) (hn : n ≤ 63) :
    bits .and .u64 (h : Int) (IntKind.u64.wrap (IntKind.u64.wrap (2 ^ n) - 1)) = ((h % 2 ^ n : Nat) : Int) := by
  have h2 : (2 : Nat) ^ n ≤ 2 ^ 63 := Nat.pow_le_pow_right (by omega) hn
  have hp : 0 < (2 : Nat) ^ n := Nat.two_pow_pos n
  have e1 : ((2 : Int) ^ n) = ((2 ^ n : Nat) : Int) := by simp
  have e2 : IntKind.u64.wrap (IntKind.u64.wrap (2 ^ n) - 1) = ((2 ^ n - 1 : Nat) : Int) := by
    rw [e1, IntKind.wrap_u64, IntKind.wrap_u64]
    omega
  rw [e2, u64_and_nat _ _ hh (by omega), Nat.and_two_pow_sub_one_eq_mod]

theorem cut_none {N : Nat} {width : Int} (h : width < 1) : cutN N width = 0 := by
  unfold cutN
  have : width.toNat = 0 := by omega
  rw [this]; simp [Nat.mod_one]
theorem pow_big : (2 : Nat) ^ 128 = B64 * B64 := by decide
theorem cut_all {a b N : Nat} {width : Int} (h : IsW a b N) (hw : 128 ≤ width) : IsW a b (cutN N width) := by
  have hl := h.lt
  have : cutN N width = N := by
    unfold cutN
    apply Nat.mod_eq_of_lt
    calc N < B64 * B64 := hl
      _ = 2 ^ 128 := pow_big.symm
      _ ≤ _ := Nat.pow_le_pow_right (by omega) (by omega)
  rw [this]; exact h
theorem cut_hi {a b N : Nat} {width : Int} (h : IsW a b N) (h1 : 64 ≤ width) (_h2 : width < 128) : IsW (a % 2 ^ (width - 64).toNat) b (cutN N width) := by
  obtain ⟨k, hk⟩ : ∃ k : Nat, width = 64 + k := ⟨(width - 64).toNat, by omega⟩
  have e1 : (width - 64).toNat = k := by omega
  have e2 : width.toNat = k + 64 := by omega
  rw [e1]
  refine ⟨Nat.lt_of_le_of_lt (Nat.mod_le _ _) h.ha, h.hb, ?_⟩
  unfold cutN
  rw [e2, h.hn, Nat.pow_add, ← B64_eq, Nat.mul_comm (2 ^ k) B64, Nat.mod_mul]
  have hb := h.hb
  have e3 : (a * B64 + b) % B64 = b := by rw [Nat.add_comm, Nat.add_mul_mod_self_right, Nat.mod_eq_of_lt hb]
  have e4 : (a * B64 + b) / B64 = a := by
    rw [Nat.add_comm, Nat.add_mul_div_right _ _ (by decide), Nat.div_eq_of_lt hb, Nat.zero_add]
  rw [e3, e4, Nat.mul_comm, Nat.add_comm]
theorem cut_lo {a b N : Nat} {width : Int} (h : IsW a b N) (h1 : 1 ≤ width) (h2 : width < 64) : IsW 0 (b % 2 ^ width.toNat) (cutN N width) := by
  have hk : width.toNat ≤ 64 := by omega
  refine ⟨by decide, Nat.lt_of_le_of_lt (Nat.mod_le _ _) h.hb, ?_⟩
  unfold cutN
  rw [h.hn, Nat.zero_mul, Nat.zero_add]
  have : B64 = 2 ^ width.toNat * 2 ^ (64 - width.toNat) := by rw [← Nat.pow_add, B64_eq]; congr 1; omega
  rw [this, ← Nat.mul_assoc, Nat.mul_comm a, Nat.mul_assoc, Nat.add_comm, Nat.add_mul_mod_self_left]
/-! ### Halves as the walk has them -/
structure IsV (a b : Int) (N : Nat) : Prop where
  ex : ∃ x y : Nat, a = x ∧ b = y ∧ IsW x y N
theorem IsV.of {a b N : Nat} (h : IsW a b N) : IsV a b N := ⟨a, b, rfl, rfl, h⟩
theorem IsV.zero : IsV 0 0 0 := ⟨0, 0, rfl, rfl, IsW.zero⟩
theorem IsV.lt {a b : Int} {N : Nat} (h : IsV a b N) : N < B64 * B64 := by
  obtain ⟨x, y, rfl, rfl, h⟩ := h
  exact h.lt
def wEq (a b c d : Int) : Bool := decide (a = c) && decide (b = d)
theorem wEq_of {a b c d : Int} {N M : Nat} (h : IsV a b N) (k : IsV c d M) : wEq a b c d = decide (N = M) := by
  obtain ⟨x, y, rfl, rfl, h⟩ := h
  obtain ⟨z, u, rfl, rfl, k⟩ := k
  unfold wEq
  rw [← Bool.decide_and, decide_eq_decide]
  have := h.eq_iff k
  omega
theorem IsV.inj {a b c d : Int} {N : Nat} (h : IsV a b N) (k : IsV c d N) : a = c ∧ b = d := by
  have := wEq_of h k
  simp only [wEq, decide_true, Bool.and_eq_true, decide_eq_true_eq] at this
  exact this

def bitN (N i : Nat) : Nat := N / 2 ^ i % 2
theorem bitN_lt (N i : Nat) : bitN N i < 2 := Nat.mod_lt _ (by decide)
theorem bit_lo {a b N : Nat} (h : IsW a b N) {i : Nat} (hi : i < 64) : b / 2 ^ i % 2 = bitN N i := by
  unfold bitN
  rw [h.hn]
  obtain ⟨j, hj⟩ : ∃ j, B64 = 2 ^ i * (2 * 2 ^ j) := ⟨64 - i - 1, by
    have : (2 : Nat) * 2 ^ (64 - i - 1) = 2 ^ (64 - i - 1 + 1) := by rw [Nat.pow_succ, Nat.mul_comm]
    rw [this, ← Nat.pow_add, B64_eq]; congr 1; omega⟩
  rw [hj, Nat.add_comm, Nat.mul_comm a, Nat.mul_assoc, Nat.add_mul_div_left _ _ (Nat.two_pow_pos i), Nat.mul_assoc, Nat.add_mul_mod_self_left]
theorem word_div {a b N : Nat} (h : IsW a b N) : N / B64 = a := by
  rw [h.hn, Nat.add_comm, Nat.add_mul_div_right _ _ (by decide), Nat.div_eq_of_lt h.hb, Nat.zero_add]
theorem bit_hi {a b N : Nat} (h : IsW a b N) {i : Nat} : a / 2 ^ i % 2 = bitN N (64 + i) := by
  unfold bitN
  rw [Nat.pow_add, ← B64_eq, ← Nat.div_div_eq_div_mul, word_div h]
theorem or_bit {b i : Nat} (h : b / 2 ^ i % 2 = 0) : b ||| 2 ^ i = b + 2 ^ i := by
  have hp := Nat.two_pow_pos i
  have e1 : b = 2 ^ (i + 1) * (b / 2 ^ (i + 1)) + b % 2 ^ i := by
    have h1 := Nat.div_add_mod b (2 ^ (i + 1))
    have h2 : b % 2 ^ (i + 1) = b % 2 ^ i + 2 ^ i * (b / 2 ^ i % 2) := by rw [Nat.pow_succ, Nat.mod_mul]
    rw [h2, h, Nat.mul_zero, Nat.add_zero] at h1
    exact h1.symm
  have hr : b % 2 ^ i < 2 ^ i := Nat.mod_lt _ hp
  generalize b / 2 ^ (i + 1) = q at e1
  generalize b % 2 ^ i = r at e1 hr
  have h3 : 2 ^ i + r < 2 ^ (i + 1) := by rw [Nat.pow_succ]; omega
  have h4 : r ||| 2 ^ i = 2 ^ i + r := by
    have := Nat.two_pow_add_eq_or_of_lt hr 1
    rw [Nat.mul_one] at this
    rw [this, Nat.or_comm]
  have h5 := Nat.two_pow_add_eq_or_of_lt (Nat.lt_of_lt_of_le hr (Nat.le_of_lt (by rw [Nat.pow_succ]; omega))) q (i := i + 1)
  have h6 := Nat.two_pow_add_eq_or_of_lt h3 q
  rw [e1, h5, Nat.or_assoc, h4, ← h6, ← h5]
  omega
theorem pow_mod {n : Nat} (h : n < B64) : ((n : Nat) : Int) % 18446744073709551616 = ((n : Nat) : Int) := by
  unfold B64 at h
  omega
theorem bit_val (b i : Nat) : wrap64 (((b : Int) / 2 ^ i).tmod 2) = ((b / 2 ^ i % 2 : Nat) : Int) := by
  have e1 : ((2 : Int) ^ i) = ((2 ^ i : Nat) : Int) := by simp
  rw [e1, ← Int.natCast_ediv]
  generalize b / 2 ^ i = q
  have e2 : ((q : Int)).tmod 2 = ((q % 2 : Nat) : Int) := by
    rw [Int.tmod_eq_emod_of_nonneg (Int.natCast_nonneg _)]; omega
  rw [e2]
  unfold wrap64
  omega
theorem set_lo {a b N : Nat} (h : IsW a b N) {i : Nat} (hi : i < 64) (hz : bitN N i = 0) : IsW a (b ||| 2 ^ i) (N + 2 ^ i) ∧ bits BinOp.or IntKind.u64 (b : Int) (IntKind.u64.wrap (2 ^ i)) = ((b ||| 2 ^ i : Nat) : Int) := by
  have hz' : b / 2 ^ i % 2 = 0 := by rw [bit_lo h hi]; exact hz
  have hlt : (2 : Nat) ^ i < B64 := by rw [B64_eq]; exact Nat.pow_lt_pow_right (by omega) hi
  have hor : b ||| 2 ^ i < B64 := by
    rw [B64_eq] at *
    exact Nat.or_lt_two_pow (by rw [← B64_eq]; exact h.hb) hlt
  refine ⟨⟨h.ha, hor, ?_⟩, ?_⟩
  · rw [or_bit hz', h.hn]; omega
  · have e : IntKind.u64.wrap (2 ^ i) = ((2 ^ i : Nat) : Int) := by
      have e1 : ((2 : Int) ^ i) = ((2 ^ i : Nat) : Int) := by simp
      rw [e1, IntKind.wrap_u64]
      exact pow_mod hlt
    rw [e, u64_or_nat _ _ h.hb hlt]
theorem set_hi {a b N : Nat} (h : IsW a b N) {i : Nat} (hi : i < 64) (hz : bitN N (64 + i) = 0) : IsW (a ||| 2 ^ i) b (N + 2 ^ (64 + i)) ∧ bits BinOp.or IntKind.u64 (a : Int) (IntKind.u64.wrap (2 ^ i)) = ((a ||| 2 ^ i : Nat) : Int) := by
  have hz' : a / 2 ^ i % 2 = 0 := by rw [bit_hi h]; exact hz
  have hlt : (2 : Nat) ^ i < B64 := by rw [B64_eq]; exact Nat.pow_lt_pow_right (by omega) hi
  have hor : a ||| 2 ^ i < B64 := by
    rw [B64_eq] at *
    exact Nat.or_lt_two_pow (by rw [← B64_eq]; exact h.ha) hlt
  refine ⟨⟨hor, h.hb, ?_⟩, ?_⟩
  · rw [or_bit hz', h.hn, Nat.pow_add, ← B64_eq, Nat.add_mul, Nat.mul_comm (2 ^ i)]; omega
  · have e : IntKind.u64.wrap (2 ^ i) = ((2 ^ i : Nat) : Int) := by
      have e1 : ((2 : Int) ^ i) = ((2 ^ i : Nat) : Int) := by simp
      rw [e1, IntKind.wrap_u64]
      exact pow_mod hlt
    rw [e, u64_or_nat _ _ h.ha hlt]
theorem mod_succ (N k : Nat) : N % 2 ^ (k + 1) = N % 2 ^ k + bitN N k * 2 ^ k := by
  unfold bitN
  rw [Nat.pow_succ, Nat.mod_mul, Nat.mul_comm (2 ^ k)]
theorem bit_mod_zero (N k : Nat) : bitN (N % 2 ^ k) k = 0 := by
  unfold bitN
  rw [Nat.div_eq_of_lt (Nat.mod_lt _ (Nat.two_pow_pos k))]

theorem cut_end {N k : Nat} {width : Int} (hN : N < 2 ^ 128) (hk : k ≤ 128) (h : k = 0 ∨ (k : Int) ≤ width) (he : ¬ ((k : Int) < width ∧ k < 128)) : N % 2 ^ k = cutN N width := by
  unfold cutN
  by_cases h1 : k = 128
  · subst h1
    rw [Nat.mod_eq_of_lt hN, Nat.mod_eq_of_lt (Nat.lt_of_lt_of_le hN (Nat.pow_le_pow_right (by omega) (by omega)))]
  · have : k = width.toNat := by omega
    rw [this]


/-- The halves of a number. -/
def hiI (N : Nat) : Int := ((N / B64 : Nat) : Int)
def loI (N : Nat) : Int := ((N % B64 : Nat) : Int)
theorem isV {N : Nat} (h : N < B64 * B64) : IsV (hiI N) (loI N) N := IsV.of (IsW.of h)
theorem IsV.hi {a b : Int} {N : Nat} (h : IsV a b N) : a = hiI N := (h.inj (isV h.lt)).1
theorem IsV.lo {a b : Int} {N : Nat} (h : IsV a b N) : b = loI N := (h.inj (isV h.lt)).2
theorem hiI_zero : hiI 0 = 0 := rfl
theorem loI_zero : loI 0 = 0 := rfl
theorem wEq_num {N M : Nat} (h : N < B64 * B64) (k : M < B64 * B64) : wEq (hiI N) (loI N) (hiI M) (loI M) = decide (N = M) := wEq_of (isV h) (isV k)
theorem cutN_lt {N : Nat} (h : N < B64 * B64) (width : Int) : cutN N width < B64 * B64 := Nat.lt_of_le_of_lt (Nat.mod_le _ _) h
end Go.Proofs.YtgihdchgdejkhaaGreatDoor.D
namespace Go.Proofs.YtgihdchgdejkhaaGreatDoor.D
open Go.Proofs.YtgihdchgdejkhaaGreatDoor.H (B64)
open Go.RowKit

theorem own_block {w : World} {base : Nat} {e : TypeId} {size : Nat} {v : Value} {n : Nat} {xs : List Value} (h : w.ownsRow base e size v n xs) : ∀ k, v.ownBlock = some k → base ≤ k := by
  intro k hk
  rcases h.2 with ⟨rfl, _⟩ | ⟨g, cap, cur, rfl, hg, _⟩
  · cases hk
  · simp [Value.ownBlock] at hk; omega
theorem cell_set_ne {w : World} {b o o' : Nat} {v u : Value} (h : w.cell? ⟨b, o, none⟩ = some v) (hne : o' ≠ o) : (w.setCell ⟨b, o', none⟩ u).cell? ⟨b, o, none⟩ = some v := by
  rw [World.cell?_setCell_other _ _ _ _ (fun e => hne (by simpa using congrArg Addr.off e))]
  exact h

/-- A word's box. -/
def Box (w : World) (k : Nat) (a b : Int) : Prop := w.cell? ⟨k, 0, none⟩ = some (.int .u64 a) ∧ w.cell? ⟨k, 1, none⟩ = some (.int .u64 b)
theorem Box.new (w : World) (a b : Int) : Box (w.alloc (.cells #[.int .u64 a, .int .u64 b] 30)) w.heap.size a b := ⟨by simp [go_sem], by simp [go_sem]⟩
theorem Box.but {S : Nat → Prop} {w w' : World} {k : Nat} {a b : Int} (hb : But S w w') (h : Box w k a b) (hn : ¬ S k) : Box w' k a b := ⟨cell_but hb h.1 hn, cell_but hb h.2 hn⟩
theorem Box.later {W w1 : World} {k : Nat} {a b : Int} (hb : Below W.heap.size W w1) (h : Box W k a b) : Box w1 k a b := ⟨cell_later hb h.1, cell_later hb h.2⟩
theorem Box.alloc {w : World} {k : Nat} {a b : Int} (h : Box w k a b) (o : Obj) : Box (w.alloc o) k a b := h.later (below1 _ _)
theorem Box.drew {w : World} {k : Nat} {a b : Int} (h : Box w k a b) : Box w.drew k a b := h

/-- The word N at a place. -/
def Wd (w : World) (b o N : Nat) : Prop := w.cell? ⟨b, o, none⟩ = some (.int .u64 (hiI N)) ∧ w.cell? ⟨b, o + 1, none⟩ = some (.int .u64 (loI N))
theorem Wd.but {S : Nat → Prop} {w w' : World} {b o N : Nat} (hb : But S w w') (h : Wd w b o N) (hn : ¬ S b) : Wd w' b o N := ⟨cell_but hb h.1 hn, cell_but hb h.2 hn⟩
theorem Wd.later {w w' : World} {b o N : Nat} (hb : Below w.heap.size w w') (h : Wd w b o N) : Wd w' b o N := ⟨cell_later hb h.1, cell_later hb h.2⟩

def wcs (N : Nat) : List Value := [.int .u64 (hiI N), .int .u64 (loI N)]
/-- The words' cells, one behind the other. -/
def wvs (f : Nat → Nat) (k : Nat) : List Value := (List.range k).flatMap fun i => wcs (f i)
theorem wvs_succ (f : Nat → Nat) (k : Nat) : wvs f (k + 1) = wvs f k ++ wcs (f k) := by simp [wvs, List.range_succ]
theorem wvs_length (f : Nat → Nat) (k : Nat) : (wvs f k).length = k * 2 := by
  induction k with
  | zero => rfl
  | succ k ih => rw [wvs_succ, List.length_append, ih, Nat.succ_mul]; rfl
theorem wvs_get (f : Nat → Nat) (k i c : Nat) (hi : i < k) (hc : c < 2) : (wvs f k)[i * 2 + c]? = (wcs (f i))[c]? := by
  induction k with
  | zero => omega
  | succ k ih =>
    rw [wvs_succ]
    by_cases h : i < k
    · rw [List.getElem?_append_left (by rw [wvs_length]; omega)]
      exact ih h
    · obtain rfl : i = k := by omega
      rw [List.getElem?_append_right (by rw [wvs_length]; omega), wvs_length]
      congr 1
      omega
theorem wvs_one (f : Nat → Nat) (k : Nat) : ∀ u ∈ wvs f k, u.oneCell' = true := by
  intro u hu
  simp only [wvs, List.mem_flatMap] at hu
  obtain ⟨i, _, hu⟩ := hu
  simp only [wcs, List.mem_cons, List.not_mem_nil, or_false] at hu
  rcases hu with rfl | rfl <;> rfl
/-- What a list of words reads. -/
structure Ws (w : World) (a : Option Addr) (n cap : Nat) (f : Nat → Nat) : Prop where
  cap_ : n ≤ cap
  none_ : a = none → n = 0 ∧ cap = 0
  cells : ∀ x, a = some x → ∀ j u, (wvs f n)[j]? = some u → w.cell? (x.add j) = some u
  small : ∀ i, f i < B64 * B64
theorem Ws.later {W w1 : World} {a : Option Addr} {n cap : Nat} {f : Nat → Nat} (hb : Below W.heap.size W w1) (h : Ws W a n cap f) : Ws w1 a n cap f :=
  ⟨h.cap_, h.none_, fun x hx j u hu => cell_later hb (h.cells x hx j u hu), h.small⟩
theorem Ws.alloc {w : World} {a : Option Addr} {n cap : Nat} {f : Nat → Nat} (h : Ws w a n cap f) (o : Obj) : Ws (w.alloc o) a n cap f := h.later (below1 _ _)
/-- Where there is a word the address is plain. -/
theorem Ws.plain {w : World} {a : Option Addr} {n cap : Nat} {f : Nat → Nat} (h : Ws w a n cap f) (hl : 0 < n) : ∃ b o, a = some ⟨b, o, none⟩ ∧ ∀ i, i < n → Wd w b (o + i * 2) (f i) := by
  cases a with
  | none => have := h.none_ rfl; omega
  | some x =>
    obtain ⟨b, o, spot⟩ := x
    have h0 := h.cells _ rfl (0 * 2 + 0) _ (wvs_get f n 0 0 hl (by omega))
    have hs : spot = none := by simpa [Addr.add] using World.cell?_spot h0
    subst hs
    refine ⟨b, o, rfl, fun i hi => ⟨?_, ?_⟩⟩
    · have := h.cells _ rfl (i * 2 + 0) _ (wvs_get f n i 0 hi (by omega))
      rw [addr_add] at this
      exact this
    · have := h.cells _ rfl (i * 2 + 1) _ (wvs_get f n i 1 hi (by omega))
      rw [addr_add] at this
      exact this
theorem Ws.at {w : World} {b o n cap : Nat} {f : Nat → Nat} (hc : n ≤ cap) (hs : ∀ i, f i < B64 * B64) (h : ∀ i, i < n → Wd w b (o + i * 2) (f i)) : Ws w (some ⟨b, o, none⟩) n cap f := by
  refine ⟨hc, fun h => (by cases h), fun x hx j u hu => ?_, hs⟩
  cases hx
  rw [addr_add]
  have hj : j < n * 2 := by have := (List.getElem?_eq_some_iff.1 hu).1; rwa [wvs_length] at this
  have hq := wvs_get f n (j / 2) (j % 2) (by omega) (by omega)
  have hjj : j / 2 * 2 + j % 2 = j := by omega
  rw [hjj] at hq
  rw [hq] at hu
  have hw := h (j / 2) (by omega)
  rcases Nat.mod_two_eq_zero_or_one j with e | e
  · rw [e] at hu
    simp only [wcs, List.getElem?_cons_zero, Option.some.injEq] at hu
    subst hu
    have := hw.1
    have e2 : o + j / 2 * 2 = o + j := by omega
    rwa [e2] at this
  · rw [e] at hu
    simp only [wcs, List.getElem?_cons_succ, List.getElem?_cons_zero, Option.some.injEq] at hu
    subst hu
    have := hw.2
    have e2 : o + j / 2 * 2 + 1 = o + j := by omega
    rwa [e2] at this
theorem Ws.take {w : World} {a : Option Addr} {n cap : Nat} {f : Nat → Nat} (h : Ws w a n cap f) {m : Nat} (hm : m ≤ n) (h0 : 0 < m) : Ws w a m cap f := by
  obtain ⟨b, o, rfl, hw⟩ := h.plain (by omega)
  exact Ws.at (by have := h.cap_; omega) h.small (fun i hi => hw i (by omega))

/-- An array of words in a block of its own. -/
structure Ar (w : World) (b n : Nat) (f : Nat → Nat) : Prop where
  lt : b < w.heap.size
  fr : ∀ j, w.frozen? ⟨b, j, none⟩ = false
  at_ : ∀ i, i < n → Wd w b (i * 2) (f i)
theorem Ar.but {S : Nat → Prop} {w w' : World} {b n : Nat} {f : Nat → Nat} (hb : But S w w') (h : Ar w b n f) (hn : ¬ S b) : Ar w' b n f :=
  ⟨Nat.lt_of_lt_of_le h.lt hb.size, fun j => by rw [World.frozen?_of_block (w := w) (hb.block b h.lt hn)]; exact h.fr j, fun i hi => (h.at_ i hi).but hb hn⟩
theorem Ar.later {w w' : World} {b n : Nat} {f : Nat → Nat} (hb : Below w.heap.size w w') (h : Ar w b n f) : Ar w' b n f := h.but (S := fun _ => False) (But.of hb) (fun h => h)
theorem Ar.alloc {w : World} {b n : Nat} {f : Nat → Nat} (h : Ar w b n f) (o : Obj) : Ar (w.alloc o) b n f := h.later (below1 _ _)
theorem Ar.congr {w : World} {b n : Nat} {f g : Nat → Nat} (h : Ar w b n f) (e : ∀ i, i < n → f i = g i) : Ar w b n g := ⟨h.lt, h.fr, fun i hi => by rw [← e i hi]; exact h.at_ i hi⟩
theorem Ar.take {w : World} {b n m : Nat} {f : Nat → Nat} (h : Ar w b n f) (hm : m ≤ n) : Ar w b m f := ⟨h.lt, h.fr, fun i hi => h.at_ i (by omega)⟩
/-- The i-th is written over. -/
theorem Ar.set {w : World} {b n : Nat} {f g : Nat → Nat} {i N : Nat} (h : Ar w b n f) (hi : i < n) (hg : ∀ j, j < n → g j = if j = i then N else f j) :
    Ar ((w.setCell ⟨b, i * 2, none⟩ (.int .u64 (hiI N))).setCell ⟨b, i * 2 + 1, none⟩ (.int .u64 (loI N))) b n g := by
  refine ⟨by simpa using h.lt, fun j => by simpa using h.fr j, fun j hj => ?_⟩
  rw [hg j hj]
  obtain ⟨h1, h2⟩ := h.at_ j hj
  by_cases e : j = i
  · subst e
    rw [if_pos rfl]
    exact ⟨cell_set_ne (World.cell?_setCell_same _ _ _ h1) (by omega), World.cell?_setCell_same _ _ _ (cell_set_ne h2 (by omega))⟩
  · rw [if_neg e]
    exact ⟨cell_set_ne (cell_set_ne h1 (by omega)) (by omega), cell_set_ne (cell_set_ne h2 (by omega)) (by omega)⟩
theorem info30 : (Tryz.prog.info? 30).map (fun i => (i.zero, i.size, i.bytes)) = some (some (.agg #[.int .u64 0, .int .u64 0]), 2, 16) := by kernel_rfl
theorem ar_of {w : World} {base b n cap : Nat} {f : Nat → Nat} (h : w.ownsRow base 30 2 (.slice (some ⟨b, 0, none⟩) n cap) n (wvs f n)) : Ar w b n f ∧ base ≤ b ∧ n ≤ cap := by
  have hb := own_block h b rfl
  have hcell : ∀ i c u, i < n → c < 2 → (wcs (f i))[c]? = some u → w.cell? ⟨b, i * 2 + c, none⟩ = some u := by
    intro i c u hi hc hu
    have := h.cells (g := b) rfl (i * 2 + c) u (by rw [wvs_get f n i c hi hc]; exact hu)
    rw [addr_add0] at this
    exact this
  rcases h.2 with ⟨h0, _⟩ | ⟨g, c, cur, hv, _, hh, hc, _⟩
  · simp at h0
  · simp only [Value.slice.injEq, Option.some.injEq, Addr.mk.injEq] at hv
    obtain ⟨⟨rfl, _⟩, _, rfl⟩ := hv
    refine ⟨⟨(Array.getElem?_eq_some_iff.1 hh).1, fun j => by simp [World.frozen?, hh], fun i hi => ⟨hcell i 0 _ hi (by omega) rfl, hcell i 1 _ hi (by omega) rfl⟩⟩, hb, hc⟩
/-- A list of n zero words is made. -/
theorem make_run (w : World) (t : TypeId) (ht : Tryz.prog.underlying t = some (.slice 30)) (n : Nat) (hn : n ≤ 4096) :
    ∃ w', (Instr.makeSlice t (.int .i64 (n : Int)) (.int .i64 (n : Int))).run Tryz.prog w = .ok (.slice (some ⟨w.heap.size, 0, none⟩) n n) w' ∧ Ar w' w.heap.size n (fun _ => 0) ∧ Below w.heap.size w w' := by
  obtain ⟨i, hi, hz0, hz1, hz2⟩ := info_parts info30
  obtain ⟨w', hr, ho, hg⟩ := run_make_full (P := Tryz.prog) w w.heap.size t 30 i _ 2 ht hi hz0 hz1 .i64 .i64 n (by rw [hz2]; omega) (by unfold maxLen; omega) (Nat.le_refl _)
  refine ⟨w', hr, ?_, (Below.refl _ _).grown hg (Nat.le_refl _) (fun k hk => by cases hk)⟩
  have e : (madeCells (Value.agg #[.int .u64 0, .int .u64 0]).cells (n * 2)).toList = wvs (fun _ => 0) n := by
    apply List.ext_getElem?
    intro j
    by_cases hj : j < n * 2
    · have hq := wvs_get (fun _ => 0) n (j / 2) (j % 2) (by omega) (by omega)
      have hjj : j / 2 * 2 + j % 2 = j := by omega
      rw [hjj] at hq
      rw [hq]
      rcases Nat.mod_two_eq_zero_or_one j with e | e
      · simp [madeCells, hj, Value.cells, e, wcs, hiI_zero, loI_zero]
      · simp [madeCells, hj, Value.cells, e, wcs, hiI_zero, loI_zero]
    · rw [List.getElem?_eq_none (by simp [madeCells]; omega), List.getElem?_eq_none (by rw [wvs_length]; omega)]
  rw [e] at ho
  exact (ar_of ho).1

theorem eqlW (a b c d : Int) (w : World) : (binOp .eql 30 (.agg #[.int .u64 a, .int .u64 b]) (.agg #[.int .u64 c, .int .u64 d])).run Tryz.prog w = .ok (.bool (wEq a b c d)) w := by
  unfold wEq
  by_cases h1 : a = c
  · subst h1
    by_cases h2 : b = d
    · subst h2
      simp [go_sem]
    · simp [go_sem, h2]
  · simp [go_sem, h1]
end Go.Proofs.YtgihdchgdejkhaaGreatDoor.D
