import Derived.Test.YtejkbeeffllpfaaL2
namespace Go.Proofs.Ytejkbeeffllpfaa
open Go.RowKit
set_option linter.unusedVariables false
set_option linter.unusedSimpArgs false

theorem St.rise {w : World} {z : Sid} {nx : Int} {Os : List Ob} (h : St w z nx Os) : Os.Pairwise (fun a b => a.id < b.id) := by
  obtain ⟨t, B, h⟩ := h
  exact h.rise
theorem St.ids {w : World} {z : Sid} {nx : Int} {Os : List Ob} (h : St w z nx Os) : ∀ o ∈ Os, 1 ≤ o.id ∧ o.id < nx := by
  obtain ⟨t, B, h⟩ := h
  exact h.ids
theorem St.rm {w : World} {z : Sid} {nx : Int} {Os : List Ob} (h : St w z nx Os) : Os.length ≤ z.room := by
  obtain ⟨t, B, h⟩ := h
  exact h.rm.1
theorem St.nx1 {w : World} {z : Sid} {nx : Int} {Os : List Ob} (h : St w z nx Os) : 1 ≤ nx ∧ nx ≤ 4611686018427387905 := by
  obtain ⟨t, B, h⟩ := h
  exact h.nx1
theorem St.small {w : World} {z : Sid} {nx : Int} {Os : List Ob} (h : St w z nx Os) : ∀ o ∈ Os, ∀ x ∈ o.data, x < 256 := by
  obtain ⟨t, B, h⟩ := h
  exact fun o ho => h.small ho
/-- A life, as it came in. -/
structure Lif where
  sz : Int
  of : Int
  da : Option Addr
  md : Nat
  cd : Nat
  D : List Nat
  gone : Bool
def lifCells (o : Lif) : Array Value := #[.int .i64 o.sz, .int .i64 o.of, .slice o.da o.md o.cd, .bool o.gone]
structure LifIn (w : World) (o : Lif) : Prop where
  rd : Row w o.da o.md o.cd (u8s o.D)
  small : ∀ x ∈ o.D, x < 256
  hd : o.md ≤ 140737488355328
  h1 : -9223372036854775808 ≤ o.sz ∧ o.sz < 9223372036854775808
  h2 : -9223372036854775808 ≤ o.of ∧ o.of < 9223372036854775808
structure Lfs (w : World) (x : Option Addr) (k cap : Nat) (f : Nat → Lif) : Prop where
  cap_ : k ≤ cap
  plain : 0 < k → ∃ b o, x = some ⟨b, o, none⟩ ∧ ∀ i, i < k → w.rangeAt b (o + i * 4) (lifCells (f i)).toList
  ok : ∀ i, i < k → LifIn w (f i)
theorem blk_lt {w : World} {a : Option Addr} {n c : Nat} {L : List Value} (h : Row w a n c L) (hn : 0 < n) : ∀ k, Blk a k → k < w.heap.size := by
  obtain ⟨b, o, rfl, hc⟩ := h.plain hn
  intro k hk
  rw [blk_at hk]
  have := hc 0 _ (List.getElem?_eq_getElem (by rw [h.len]; exact hn))
  exact World.block_lt_of_cell? _ _ this
theorem lif_cells {w w' : World} {b o : Nat} {X : Lif} (hb : Below w.heap.size w w') (h : w.rangeAt b o (lifCells X).toList) : w'.cell? ⟨b, o, none⟩ = some (.int .i64 X.sz) ∧ w'.cell? ⟨b, o + 1, none⟩ = some (.int .i64 X.of) ∧ w'.cell? ⟨b, o + 2, none⟩ = some (.slice X.da X.md X.cd) ∧ w'.cell? ⟨b, o + 3, none⟩ = some (.bool X.gone) :=
  ⟨cell_later hb (h 0 _ rfl), cell_later hb (h 1 _ rfl), cell_later hb (h 2 _ rfl), cell_later hb (h 3 _ rfl)⟩
theorem and_low (n : Int) (s : Nat) (hs : s ≤ 62) : bits .and .i64 n (((2 ^ s - 1 : Nat)) : Int) = n % (2 ^ s : Nat) := by
  have hp : 2 ^ s ≤ 2 ^ 62 := Nat.pow_le_pow_right (by omega) hs
  have h0 : 0 < 2 ^ s := Nat.two_pow_pos s
  have hd : (2 ^ 64 : Nat) = 2 ^ s * 2 ^ (64 - s) := by rw [← Nat.pow_add]; congr 1; omega
  have key : (BitVec.ofInt 64 n &&& BitVec.ofInt 64 (((2 ^ s - 1 : Nat)) : Int)).toNat = (n % ((2 ^ 64 : Nat) : Int)).toNat % 2 ^ s := by
    have e : (BitVec.ofInt 64 (((2 ^ s - 1 : Nat)) : Int)).toNat = 2 ^ s - 1 := by
      rw [BitVec.toNat_ofInt]
      omega
    rw [BitVec.toNat_and, BitVec.toNat_ofInt, e, Nat.and_two_pow_sub_one_eq_mod]
  show IntKind.i64.wrap ((BitVec.ofInt 64 n &&& BitVec.ofInt 64 (((2 ^ s - 1 : Nat)) : Int)).toNat : Nat) = _
  rw [key, IntKind.wrap_i64]
  have e1 : (((n % ((2 ^ 64 : Nat) : Int)).toNat % 2 ^ s : Nat) : Int) = n % (2 ^ s : Nat) := by
    rw [Int.natCast_emod, Int.toNat_of_nonneg (Int.emod_nonneg _ (by omega))]
    refine Int.emod_emod_of_dvd n ?_
    rw [hd, Int.natCast_mul]
    exact Int.dvd_mul_right _ _
  rw [e1]
  have h1 := Int.emod_nonneg n (show ((2 ^ s : Nat) : Int) ≠ 0 by omega)
  have h2 := Int.emod_lt_of_pos n (show (0 : Int) < ((2 ^ s : Nat) : Int) by omega)
  omega
theorem low10 (n : Int) : ∃ q : Nat, bits .and .i64 n 1023 = (q : Int) ∧ q ≤ 1023 := by
  have h := and_low n 10 (by omega)
  refine ⟨(n % 1024).toNat, ?_, by omega⟩
  rw [show ((1023 : Int)) = (((2 ^ 10 - 1 : Nat)) : Int) from rfl, h]
  show n % 1024 = _
  omega
theorem low8 (n : Int) : ∃ q : Nat, bits .and .i64 n 255 = (q : Int) ∧ q ≤ 255 := by
  have h := and_low n 8 (by omega)
  refine ⟨(n % 256).toNat, ?_, by omega⟩
  rw [show ((255 : Int)) = (((2 ^ 8 - 1 : Nat)) : Int) from rfl, h]
  show n % 256 = _
  omega
theorem usedN_take (Os : List Ob) (j : Nat) (h : j < Os.length) : usedN (Os.take (j + 1)) = usedN (Os.take j) + needN Os[j].data.length := by
  unfold usedN
  rw [List.take_add_one, List.getElem?_eq_getElem h]
  simp only [Option.toList_some, List.map_append, List.map_cons, List.map_nil, List.sum_append, List.sum_cons, List.sum_nil]
  omega
theorem usedN_le (Os : List Ob) (j : Nat) : usedN (Os.take j) ≤ usedN Os := by
  have h : usedN (Os.take j) + usedN (Os.drop j) = usedN Os := by
    unfold usedN
    rw [← List.sum_append, ← List.map_append, List.take_append_drop]
  omega
def UsRel (Os : List Ob) (L : Nat) (wr : World) (v11 v12 : Value) (w' : World) : Prop := ∃ j u : Nat, v11 = .int .i64 (u : Int) ∧ v12 = .int .i64 (j : Int) ∧ j ≤ L ∧ u = usedN (Os.take j) ∧ wr = w'
def LvRel (w : World) (z : Sid) (k : Nat) (v5 v6 v7 v8 v9 : Value) (w' : World) : Prop :=
  ∃ (i L : Nat) (nx : Int) (Os : List Ob) (G : Int → Nat) (col : Nat → Nat) (aI : Option Addr) (cI : Nat) (aS : Option Addr) (cS : Nat) (aW : Option Addr) (cW : Nat), v5 = .slice aI L cI ∧ v6 = .slice aS L cS ∧ v7 = .slice aW L cW ∧ v8 = .int .i64 (nx - 1) ∧ v9 = .int .i64 (i : Int) ∧ L = Os.length ∧ i ≤ k ∧ nx ≤ (i : Int) + 1 ∧ Lv w' w.heap.size col z nx Os Os G aI cI aS cS aW cW ∧ Below w.heap.size w w'
end Go.Proofs.Ytejkbeeffllpfaa
