import Derived.Test.YtejkbeeffllpfaaL4
namespace Go.Proofs.Ytejkbeeffllpfaa
open Go.RowKit
set_option linter.unusedVariables false

/-- The document's objects in memory: number and row, each. -/
def rcs (G : Int → Nat) : List (Int × List Nat) → List Value
  | [] => []
  | p :: r => .int .i64 p.1 :: .slice (some ⟨G p.1, 0, none⟩) p.2.length p.2.length :: rcs G r
theorem rcs_length (G : Int → Nat) : ∀ V, (rcs G V).length = 2 * V.length
  | [] => rfl
  | p :: r => by simp only [rcs, List.length_cons, rcs_length G r]; omega
theorem rcs_append (G : Int → Nat) (W : List (Int × List Nat)) : ∀ V, rcs G (V ++ W) = rcs G V ++ rcs G W
  | [] => rfl
  | p :: r => by simp only [List.cons_append, rcs, rcs_append G W r]
theorem rcs_get (G : Int → Nat) : ∀ (V : List (Int × List Nat)) (i : Nat) (h : i < V.length), (rcs G V)[i * 2]? = some (.int .i64 V[i].1) ∧ (rcs G V)[i * 2 + 1]? = some (.slice (some ⟨G V[i].1, 0, none⟩) V[i].2.length V[i].2.length)
  | p :: r, 0, _ => ⟨rfl, rfl⟩
  | p :: r, i + 1, h => by
    have ih := rcs_get G r i (by simpa using h)
    have e1 : (i + 1) * 2 = i * 2 + 2 := by omega
    rw [e1]
    exact ih
theorem rcs_take (G : Int → Nat) : ∀ (V : List (Int × List Nat)) (i : Nat), rcs G (V.take i) = (rcs G V).take (i * 2)
  | [], i => by simp [rcs]
  | p :: r, 0 => by simp [rcs]
  | p :: r, i + 1 => by
    have e1 : (i + 1) * 2 = i * 2 + 1 + 1 := by omega
    rw [e1, List.take_succ_cons, rcs, rcs, List.take_succ_cons, List.take_succ_cons, rcs_take G r i]
theorem rcs_drop (G : Int → Nat) : ∀ (V : List (Int × List Nat)) (i : Nat), rcs G (V.drop i) = (rcs G V).drop (i * 2)
  | [], i => by simp [rcs]
  | p :: r, 0 => by simp
  | p :: r, i + 1 => by
    have e1 : (i + 1) * 2 = i * 2 + 1 + 1 := by omega
    rw [e1, List.drop_succ_cons, rcs, List.drop_succ_cons, List.drop_succ_cons, rcs_drop G r i]
theorem rcs_one (G : Int → Nat) : ∀ V, ∀ u ∈ rcs G V, u.oneCell' = true
  | [], u, h => by cases h
  | p :: r, u, h => by
    simp only [rcs, List.mem_cons] at h
    rcases h with rfl | rfl | h
    · rfl
    · rfl
    · exact rcs_one G r u h
theorem rcs_congr {G G' : Int → Nat} {V : List (Int × List Nat)} (h : ∀ p ∈ V, G p.1 = G' p.1) : rcs G V = rcs G' V := by
  induction V with
  | nil => rfl
  | cons p r ih =>
    rw [rcs, rcs, h p (by simp), ih (fun q hq => h q (by simp [hq]))]
/-- The document's store. -/
structure Rf (w : World) (base r room n : Nat) (nx : Int) (V : List (Int × List Nat)) (G : Int → Nat) (a : Option Addr) (cap : Nat) (col : Nat → Nat) : Prop where
  c0 : Lies w ⟨r, 0, none⟩ (.int .i64 (room : Int))
  c1 : Lies w ⟨r, 1, none⟩ (.int .i64 (n : Int))
  c2 : Lies w ⟨r, 2, none⟩ (.slice a V.length cap)
  c3 : Lies w ⟨r, 3, none⟩ (.int .i64 nx)
  own : w.ownsRow base 92 2 (.slice a V.length cap) V.length (rcs G V)
  cel : ∀ p ∈ V, Cel w (G p.1) p.2.length (fun x => p.2.getD x 0)
  k1 : col r = 1
  k2 : ∀ k, Blk a k → col k = 2
  k3 : ∀ p ∈ V, col (G p.1) = 10 + p.1.toNat
  lt : ∀ k, col k ≠ 0 → k < w.heap.size
  ge : ∀ k, col k ≠ 0 → base ≤ k
  hb : base ≤ w.heap.size
  rise : V.Pairwise (fun a b => a.1 < b.1)
  ids : ∀ p ∈ V, 1 ≤ p.1 ∧ p.1 < nx
  nx1 : 1 ≤ nx ∧ nx ≤ 4611686018427387905
  rm : V.length ≤ room ∧ room ≤ 64
  nn : n ≤ 256
  big : ∀ p ∈ V, p.2.length ≤ 4096
  small : ∀ p ∈ V, ∀ x ∈ p.2, x < 256
theorem Rf.but {S : Nat → Prop} {w w' : World} {base r room n : Nat} {nx : Int} {V : List (Int × List Nat)} {G : Int → Nat} {a : Option Addr} {cap : Nat} {col : Nat → Nat} (hb : But S w w') (h : Rf w base r room n nx V G a cap col) (hS : ∀ k, col k ≠ 0 → ¬ S k) : Rf w' base r room n nx V G a cap col :=
  { h with
    c0 := h.c0.but hb (hS _ (by rw [h.k1]; decide))
    c1 := h.c1.but hb (hS _ (by rw [h.k1]; decide))
    c2 := h.c2.but hb (hS _ (by rw [h.k1]; decide))
    c3 := h.c3.but hb (hS _ (by rw [h.k1]; decide))
    own := own_but hb h.own (fun k hk => hS k (by rw [h.k2 k (Blk.of.1 hk)]; decide))
    cel := fun p hp => (h.cel p hp).but hb (hS _ (by rw [h.k3 p hp]; omega))
    lt := fun k hk => Nat.lt_of_lt_of_le (h.lt k hk) hb.size
    hb := Nat.le_trans h.hb hb.size }
theorem Rf.later {w w' : World} {base r room n : Nat} {nx : Int} {V : List (Int × List Nat)} {G : Int → Nat} {a : Option Addr} {cap : Nat} {col : Nat → Nat} (hb : Below w.heap.size w w') (h : Rf w base r room n nx V G a cap col) : Rf w' base r room n nx V G a cap col :=
  h.but (S := fun _ => False) (But.of hb) (fun _ _ h => h)
/-- Its element's cells. -/
theorem Rf.cells {w : World} {base r room n : Nat} {nx : Int} {V : List (Int × List Nat)} {G : Int → Nat} {a : Option Addr} {cap : Nat} {col : Nat → Nat} (h : Rf w base r room n nx V G a cap col) (hl : 0 < V.length) :
    ∃ ga, a = some ⟨ga, 0, none⟩ ∧ ∀ i (hi : i < V.length), w.cell? ⟨ga, i * 2, none⟩ = some (.int .i64 V[i].1) ∧ w.cell? ⟨ga, i * 2 + 1, none⟩ = some (.slice (some ⟨G V[i].1, 0, none⟩) V[i].2.length V[i].2.length) := by
  rcases h.own.2 with ⟨h1, hn⟩ | ⟨g, cp, cur, hv, hg, hh, _⟩
  · omega
  · simp only [Value.slice.injEq] at hv
    obtain ⟨rfl, _, rfl⟩ := hv
    refine ⟨g, rfl, fun i hi => ?_⟩
    have hc : ∀ j u, (rcs G V)[j]? = some u → w.cell? ⟨g, j, none⟩ = some u := fun j u hu => by
      have := h.own.cells (g := g) rfl j u hu
      rwa [addr_add0] at this
    exact ⟨hc _ _ (rcs_get G V i hi).1, hc _ _ (rcs_get G V i hi).2⟩
theorem Rf.cap_ {w : World} {base r room n : Nat} {nx : Int} {V : List (Int × List Nat)} {G : Int → Nat} {a : Option Addr} {cap : Nat} {col : Nat → Nat} (h : Rf w base r room n nx V G a cap col) : V.length ≤ cap := by
  rcases h.own.2 with ⟨h1, hn⟩ | ⟨g, cp, cur, hv, _, _, hc, _⟩
  · omega
  · simp only [Value.slice.injEq] at hv
    omega
/-- Where a number stands. -/
def Idx (V : List (Int × List Nat)) (id v : Int) : Prop := (∃ (i : Nat) (h : i < V.length), v = (i : Int) ∧ V[i].1 = id) ∨ (v = -1 ∧ ∀ p ∈ V, p.1 ≠ id)
def AtRel (V : List (Int × List Nat)) (id : Int) (L : Nat) (w : World) (v : Value) (w' : World) : Prop := ∃ i : Nat, v = .int .i64 (i : Int) ∧ i ≤ L ∧ (∀ j (h : j < V.length), j < i → V[j].1 ≠ id) ∧ w = w'
set_option maxRecDepth 100000 in
set_option maxHeartbeats 1000000 in
theorem rat_any (base r room n : Nat) (nx : Int) (V : List (Int × List Nat)) (G : Int → Nat) (a : Option Addr) (cap : Nat) (col : Nat → Nat) (id : Int) (w : World) (h : Rf w base r room n nx V G a cap col) :
    Calls Try.prog 43 #[.pointer (some ⟨r, 0, none⟩), .int .i64 id] w fun e w' => ∃ v, e = .returned (.int .i64 v) ∧ Idx V id v ∧ w' = w := by
  have x := h.c2.1
  have H := hid h
  have hrm := h.rm
  have hcap := h.cap_
  clear h
  obtain ⟨L, hL⟩ : ∃ L, L = V.length := ⟨_, rfl⟩
  rw [← hL] at x hrm hcap
  have HL := hid hL
  clear hL
  go_enter Try.func43, Try.ntmps43
  go_wp2
  go_loopw [5] (AtRel V id L w) (fun v _ => L - ivN v)
  case atStart => exact ⟨0, rfl, Nat.zero_le _, fun j _ hj => absurd hj (by omega), rfl⟩
  case round =>
    obtain ⟨i, rfl, hi, hne, rfl⟩ := hrel
    have HNE := hid hne
    clear hne
    by_cases hlt : i < L
    · have hd : decide ((i : Int) < (L : Int)) = true := decide_eq_true (by omega)
      have hil : i < V.length := by have := HL.out; omega
      obtain ⟨ga, rfl, hc⟩ := H.out.cells (by omega)
      have y := (hc i hil).1
      obtain ⟨vi, hvi⟩ : ∃ vi, vi = V[i].1 := ⟨_, rfl⟩
      rw [← hvi] at y
      have HVI := hid hvi
      clear hc hvi
      by_cases he : vi = id
      · have hq : (vi == id) = true := by simp [he]
        go_wp2
        go_ret
        exact ⟨_, rfl, .inl ⟨i, hil, rfl, by rw [← HVI.out]; exact he⟩, rfl⟩
      · have hq : (vi == id) = false := by simp [he]
        go_wp2
        refine ⟨⟨i + 1, rfl, by omega, fun j hj hji => ?_, rfl⟩, by simp [ivN]; omega⟩
        by_cases e : j = i
        · subst e
          rw [← HVI.out]
          exact he
        · exact HNE.out j hj (by omega)
    · obtain rfl : i = L := by omega
      have hd : decide ((i : Int) < (i : Int)) = false := by simp
      go_wp2
      go_ret
      refine ⟨_, rfl, .inr ⟨rfl, fun p hp => ?_⟩, rfl⟩
      obtain ⟨j, hj, rfl⟩ := List.getElem_of_mem hp
      exact HNE.out j hj (by have := HL.out; omega)
def usedV (V : List (Int × List Nat)) : Nat := (V.map fun p => needN p.2.length).sum
theorem usedV_take (V : List (Int × List Nat)) (j : Nat) (h : j < V.length) : usedV (V.take (j + 1)) = usedV (V.take j) + needN V[j].2.length := by
  unfold usedV
  rw [List.take_add_one, List.getElem?_eq_getElem h]
  simp only [Option.toList_some, List.map_append, List.map_cons, List.map_nil, List.sum_append, List.sum_cons, List.sum_nil]
  omega
theorem usedV_bound : ∀ (V : List (Int × List Nat)), (∀ p ∈ V, p.2.length ≤ 4096) → usedV V ≤ 64 * V.length
  | [], _ => by simp [usedV]
  | p :: r, h => by
    have h1 := h p (by simp)
    have h2 := usedV_bound r (fun q hq => h q (by simp [hq]))
    simp only [usedV, List.map_cons, List.sum_cons, List.length_cons] at h2 ⊢
    unfold needN at *
    omega
def FrRel (V : List (Int × List Nat)) (n L : Nat) (w : World) (v3 v4 : Value) (w' : World) : Prop := ∃ i : Nat, ∃ u : Int, v3 = .int .i64 u ∧ v4 = .int .i64 (i : Int) ∧ i ≤ L ∧ u = (n : Int) - (usedV (V.take i) : Int) ∧ w = w'
set_option maxRecDepth 100000 in
set_option maxHeartbeats 1000000 in
theorem rfree_any (base r room n : Nat) (nx : Int) (V : List (Int × List Nat)) (G : Int → Nat) (a : Option Addr) (cap : Nat) (col : Nat → Nat) (w : World) (h : Rf w base r room n nx V G a cap col) :
    Calls Try.prog 47 #[.pointer (some ⟨r, 0, none⟩)] w fun e w' => e = .returned (.int .i64 ((n : Int) - (usedV V : Int))) ∧ w' = w := by
  have x := h.c2.1
  have x1 := h.c1.1
  have H := hid h
  have hrm := h.rm
  have hcap := h.cap_
  have hnn := h.nn
  clear h
  obtain ⟨L, hL⟩ : ∃ L, L = V.length := ⟨_, rfl⟩
  rw [← hL] at x hrm hcap
  have HL := hid hL
  clear hL
  go_enter Try.func47, Try.ntmps47
  go_wp2
  go_loopw [3, 4] (FrRel V n L w) (fun _ v _ => L - ivN v)
  case atStart => exact ⟨0, _, rfl, rfl, Nat.zero_le _, by simp [usedV], rfl⟩
  case round =>
    obtain ⟨i, u, rfl, rfl, hi, hu, rfl⟩ := hrel
    have hub := usedV_bound (V.take i) (fun p hp => H.out.big p (List.mem_of_mem_take hp))
    have hub2 : -5000 ≤ u ∧ u ≤ 5000 := by
      rw [List.length_take] at hub
      omega
    have HU := hid hu
    clear hu hub
    by_cases hlt : i < L
    · have hd : decide ((i : Int) < (L : Int)) = true := decide_eq_true (by omega)
      have hil : i < V.length := by have := HL.out; omega
      obtain ⟨ga, rfl, hc⟩ := H.out.cells (by omega)
      have y := (hc i hil).2
      have hbig := H.out.big _ (List.getElem_mem hil)
      have HNE := hid (usedV_take V i hil)
      obtain ⟨d, hdd⟩ : ∃ d, d = V[i].2.length := ⟨_, rfl⟩
      rw [← hdd] at y hbig HNE
      obtain ⟨nd, hnd⟩ : ∃ nd, nd = needN d := ⟨_, rfl⟩
      have hd1 : ((d : Int) + 63) / 64 = (nd : Int) := by rw [hnd]; unfold needN; omega
      have hnd2 : nd ≤ 64 := by rw [hnd]; unfold needN; omega
      rw [← hnd] at HNE
      clear hc hdd hnd
      go_wp2
      exact ⟨⟨i + 1, _, rfl, rfl, by omega, by rw [HNE.out, HU.out]; omega, rfl⟩, by simp [ivN]; omega⟩
    · obtain rfl : i = L := by omega
      have hd : decide ((i : Int) < (i : Int)) = false := by simp
      go_wp2
      go_ret
      exact ⟨ret_int (by rw [HU.out, List.take_of_length_le (by rw [HL.out]; exact Nat.le_refl _)]), rfl⟩
end Go.Proofs.Ytejkbeeffllpfaa
