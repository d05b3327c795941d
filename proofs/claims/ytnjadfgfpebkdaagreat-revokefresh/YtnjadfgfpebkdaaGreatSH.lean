import Derived.Test.YtnjadfgfpebkdaaGreatSG
namespace Go.Proofs.YtnjadfgfpebkdaaGreat.S
open Go.RowKit
set_option linter.unusedVariables false

/-- The document's objects in memory: number and row, each. -/
def rcs (G : Int → Nat) : List (Int × List Nat) → List Value
  | [] => []
  | p :: r => .int .i64 p.1 :: .slice (some ⟨G p.1, 0, none⟩) p.2.length p.2.length :: rcs G r
theorem rcs_length (G : Int → Nat) : ∀ V, (rcs G V).length = 2 * V.length
  | [] => rfl
  | p :: r => by simp only [rcs, List.length_cons, rcs_length G r]; omega
theorem rcs_append (G : Int → Nat) (W : List (Int × List Nat)) : ∀ V, rcs G (V ++ W) = rcs G V ++ rcs G W
  | [] => rfl
  | p :: r => by simp only [List.cons_append, rcs, rcs_append G W r]
theorem rcs_get (G : Int → Nat) : ∀ (V : List (Int × List Nat)) (i : Nat) (h : i < V.length), (rcs G V)[i * 2]? = some (.int .i64 V[i].1) ∧ (rcs G V)[i * 2 + 1]? = some (.slice (some ⟨G V[i].1, 0, none⟩) V[i].2.length V[i].2.length)
  | p :: r, 0, _ => ⟨rfl, rfl⟩
  | p :: r, i + 1, h => by
    have ih := rcs_get G r i (by simpa using h)
    have e1 : (i + 1) * 2 = i * 2 + 2 := by omega
    rw [e1]
    exact ih
theorem rcs_take (G : Int → Nat) : ∀ (V : List (Int × List Nat)) (i : Nat), rcs G (V.take i) = (rcs G V).take (i * 2)
  | [], i => by simp [rcs]
  | p :: r, 0 => by simp [rcs]
  | p :: r, i + 1 => by
    have e1 : (i + 1) * 2 = i * 2 + 1 + 1 := by omega
    rw [e1, List.take_succ_cons, rcs, rcs, List.take_succ_cons, List.take_succ_cons, rcs_take G r i]
theorem rcs_drop (G : Int → Nat) : ∀ (V : List (Int × List Nat)) (i : Nat), rcs G (V.drop i) = (rcs G V).drop (i * 2)
  | [], i => by simp [rcs]
  | p :: r, 0 => by simp
  | p :: r, i + 1 => by
    have e1 : (i + 1) * 2 = i * 2 + 1 + 1 := by omega
    rw [e1, List.drop_succ_cons, rcs, List.drop_succ_cons, List.drop_succ_cons, rcs_drop G r i]
theorem rcs_one (G : Int → Nat) : ∀ V, ∀ u ∈ rcs G V, u.oneCell' = true
  | [], u, h => by cases h
  | p :: r, u, h => by
    simp only [rcs, List.mem_cons] at h
    rcases h with rfl | rfl | h
    · rfl
    · rfl
    · exact rcs_one G r u h
theorem rcs_congr {G G' : Int → Nat} {V : List (Int × List Nat)} (h : ∀ p ∈ V, G p.1 = G' p.1) : rcs G V = rcs G' V := by
  induction V with
  | nil => rfl
  | cons p r ih =>
    rw [rcs, rcs, h p (by simp), ih (fun q hq => h q (by simp [hq]))]
/-- The document's store. -/
structure Rf (w : World) (base r room n : Nat) (nx : Int) (V : List (Int × List Nat)) (G : Int → Nat) (a : Option Addr) (cap : Nat) (col : Nat → Nat) : Prop where
  c0 : Lies w ⟨r, 0, none⟩ (.int .i64 (room : Int))
  c1 : Lies w ⟨r, 1, none⟩ (.int .i64 (n : Int))
  c2 : Lies w ⟨r, 2, none⟩ (.slice a V.length cap)
  c3 : Lies w ⟨r, 3, none⟩ (.int .i64 nx)
  own : w.ownsRow base 158 2 (.slice a V.length cap) V.length (rcs G V)
  cel : ∀ p ∈ V, Cel w (G p.1) p.2.length (fun x => p.2.getD x 0)
  k1 : col r = 1
  k2 : ∀ k, Blk a k → col k = 2
  k3 : ∀ p ∈ V, col (G p.1) = 10 + p.1.toNat
  lt : ∀ k, col k ≠ 0 → k < w.heap.size
  ge : ∀ k, col k ≠ 0 → base ≤ k
  hb : base ≤ w.heap.size
  rise : V.Pairwise (fun a b => a.1 < b.1)
  ids : ∀ p ∈ V, 1 ≤ p.1 ∧ p.1 < nx
  nx1 : 1 ≤ nx ∧ nx ≤ 4611686018427387905
  rm : V.length ≤ room ∧ room ≤ 64
  nn : n ≤ 256
  big : ∀ p ∈ V, p.2.length ≤ 4096
  small : ∀ p ∈ V, ∀ x ∈ p.2, x < 256
theorem Rf.but {S : Nat → Prop} {w w' : World} {base r room n : Nat} {nx : Int} {V : List (Int × List Nat)} {G : Int → Nat} {a : Option Addr} {cap : Nat} {col : Nat → Nat} (hb : But S w w') (h : Rf w base r room n nx V G a cap col) (hS : ∀ k, col k ≠ 0 → ¬ S k) : Rf w' base r room n nx V G a cap col :=
  { h with
    c0 := h.c0.but hb (hS _ (by rw [h.k1]; decide))
    c1 := h.c1.but hb (hS _ (by rw [h.k1]; decide))
    c2 := h.c2.but hb (hS _ (by rw [h.k1]; decide))
    c3 := h.c3.but hb (hS _ (by rw [h.k1]; decide))
    own := own_but hb h.own (fun k hk => hS k (by rw [h.k2 k (Blk.of.1 hk)]; decide))
    cel := fun p hp => (h.cel p hp).but hb (hS _ (by rw [h.k3 p hp]; omega))
    lt := fun k hk => Nat.lt_of_lt_of_le (h.lt k hk) hb.size
    hb := Nat.le_trans h.hb hb.size }
theorem Rf.later {w w' : World} {base r room n : Nat} {nx : Int} {V : List (Int × List Nat)} {G : Int → Nat} {a : Option Addr} {cap : Nat} {col : Nat → Nat} (hb : Below w.heap.size w w') (h : Rf w base r room n nx V G a cap col) : Rf w' base r room n nx V G a cap col :=
  h.but (S := fun _ => False) (But.of hb) (fun _ _ h => h)
/-- Its element's cells. -/
theorem Rf.cells {w : World} {base r room n : Nat} {nx : Int} {V : List (Int × List Nat)} {G : Int → Nat} {a : Option Addr} {cap : Nat} {col : Nat → Nat} (h : Rf w base r room n nx V G a cap col) (hl : 0 < V.length) :
    ∃ ga, a = some ⟨ga, 0, none⟩ ∧ ∀ i (hi : i < V.length), w.cell? ⟨ga, i * 2, none⟩ = some (.int .i64 V[i].1) ∧ w.cell? ⟨ga, i * 2 + 1, none⟩ = some (.slice (some ⟨G V[i].1, 0, none⟩) V[i].2.length V[i].2.length) := by
  rcases h.own.2 with ⟨h1, hn⟩ | ⟨g, cp, cur, hv, hg, hh, _⟩
  · omega
  · simp only [Value.slice.injEq] at hv
    obtain ⟨rfl, _, rfl⟩ := hv
    refine ⟨g, rfl, fun i hi => ?_⟩
    have hc : ∀ j u, (rcs G V)[j]? = some u → w.cell? ⟨g, j, none⟩ = some u := fun j u hu => by
      have := h.own.cells (g := g) rfl j u hu
      rwa [addr_add0] at this
    exact ⟨hc _ _ (rcs_get G V i hi).1, hc _ _ (rcs_get G V i hi).2⟩
theorem Rf.cap_ {w : World} {base r room n : Nat} {nx : Int} {V : List (Int × List Nat)} {G : Int → Nat} {a : Option Addr} {cap : Nat} {col : Nat → Nat} (h : Rf w base r room n nx V G a cap col) : V.length ≤ cap := by
  rcases h.own.2 with ⟨h1, hn⟩ | ⟨g, cp, cur, hv, _, _, hc, _⟩
  · omega
  · simp only [Value.slice.injEq] at hv
    omega
/-- Where a number stands. -/
def Idx (V : List (Int × List Nat)) (id v : Int) : Prop := (∃ (i : Nat) (h : i < V.length), v = (i : Int) ∧ V[i].1 = id) ∨ (v = -1 ∧ ∀ p ∈ V, p.1 ≠ id)
def AtRel (V : List (Int × List Nat)) (id : Int) (L : Nat) (w : World) (v : Value) (w' : World) : Prop := ∃ i : Nat, v = .int .i64 (i : Int) ∧ i ≤ L ∧ (∀ j (h : j < V.length), j < i → V[j].1 ≠ id) ∧ w = w'
set_option maxRecDepth 100000 in
set_option maxHeartbeats 1000000 in
theorem rat_any (base r room n : Nat) (nx : Int) (V : List (Int × List Nat)) (G : Int → Nat) (a : Option Addr) (cap : Nat) (col : Nat → Nat) (id : Int) (w : World) (h : Rf w base r room n nx V G a cap col) :
    Calls Tryz.prog 76 #[.pointer (some ⟨r, 0, none⟩), .int .i64 id] w fun e w' => ∃ v, e = .returned (.int .i64 v) ∧ Idx V id v ∧ w' = w := by
  have x := h.c2.1
  have H := hid h
  have hrm := h.rm
  have hcap := h.cap_
  clear h
  obtain ⟨L, hL⟩ : ∃ L, L = V.length := ⟨_, rfl⟩
  rw [← hL] at x hrm hcap
  have HL := hid hL
  clear hL
  go_enter Tryz.func76, Tryz.ntmps76
  go_wp2
  go_loopw [5] (AtRel V id L w) (fun v _ => L - ivN v)
  case atStart => exact ⟨0, rfl, Nat.zero_le _, fun j _ hj => absurd hj (by omega), rfl⟩
  case round =>
    obtain ⟨i, rfl, hi, hne, rfl⟩ := hrel
    have HNE := hid hne
    clear hne
    by_cases hlt : i < L
    · have hd : decide ((i : Int) < (L : Int)) = true := decide_eq_true (by omega)
      have hil : i < V.length := by have := HL.out; omega
      obtain ⟨ga, rfl, hc⟩ := H.out.cells (by omega)
      have y := (hc i hil).1
      obtain ⟨vi, hvi⟩ : ∃ vi, vi = V[i].1 := ⟨_, rfl⟩
      rw [← hvi] at y
      have HVI := hid hvi
      clear hc hvi
      by_cases he : vi = id
      · have hq : (vi == id) = true := by simp [he]
        go_wp2
        go_ret
        exact ⟨_, rfl, .inl ⟨i, hil, rfl, by rw [← HVI.out]; exact he⟩, rfl⟩
      · have hq : (vi == id) = false := by simp [he]
        go_wp2
        refine ⟨⟨i + 1, rfl, by omega, fun j hj hji => ?_, rfl⟩, by simp [ivN]; omega⟩
        by_cases e : j = i
        · subst e
          rw [← HVI.out]
          exact he
        · exact HNE.out j hj (by omega)
    · obtain rfl : i = L := by omega
      have hd : decide ((i : Int) < (i : Int)) = false := by simp
      go_wp2
      go_ret
      refine ⟨_, rfl, .inr ⟨rfl, fun p hp => ?_⟩, rfl⟩
      obtain ⟨j, hj, rfl⟩ := List.getElem_of_mem hp
      exact HNE.out j hj (by have := HL.out; omega)
def usedV (V : List (Int × List Nat)) : Nat := (V.map fun p => needN p.2.length).sum
theorem usedV_take (V : List (Int × List Nat)) (j : Nat) (h : j < V.length) : usedV (V.take (j + 1)) = usedV (V.take j) + needN V[j].2.length := by
  unfold usedV
  rw [List.take_add_one, List.getElem?_eq_getElem h]
  simp only [Option.toList_some, List.map_append, List.map_cons, List.map_nil, List.sum_append, List.sum_cons, List.sum_nil]
  omega
theorem usedV_bound : ∀ (V : List (Int × List Nat)), (∀ p ∈ V, p.2.length ≤ 4096) → usedV V ≤ 64 * V.length
  | [], _ => by simp [usedV]
  | p :: r, h => by
    have h1 := h p (by simp)
    have h2 := usedV_bound r (fun q hq => h q (by simp [hq]))
    simp only [usedV, List.map_cons, List.sum_cons, List.length_cons] at h2 ⊢
    unfold needN at *
    omega
def FrRel (V : List (Int × List Nat)) (n L : Nat) (w : World) (v3 v4 : Value) (w' : World) : Prop := ∃ i : Nat, ∃ u : Int, v3 = .int .i64 u ∧ v4 = .int .i64 (i : Int) ∧ i ≤ L ∧ u = (n : Int) - (usedV (V.take i) : Int) ∧ w = w'
set_option maxRecDepth 100000 in
set_option maxHeartbeats 1000000 in
theorem rfree_any (base r room n : Nat) (nx : Int) (V : List (Int × List Nat)) (G : Int → Nat) (a : Option Addr) (cap : Nat) (col : Nat → Nat) (w : World) (h : Rf w base r room n nx V G a cap col) :
    Calls Tryz.prog 58 #[.pointer (some ⟨r, 0, none⟩)] w fun e w' => e = .returned (.int .i64 ((n : Int) - (usedV V : Int))) ∧ w' = w := by
  have x := h.c2.1
  have x1 := h.c1.1
  have H := hid h
  have hrm := h.rm
  have hcap := h.cap_
  have hnn := h.nn
  clear h
  obtain ⟨L, hL⟩ : ∃ L, L = V.length := ⟨_, rfl⟩
  rw [← hL] at x hrm hcap
  have HL := hid hL
  clear hL
  go_enter Tryz.func58, Tryz.ntmps58
  go_wp2
  go_loopw [3, 4] (FrRel V n L w) (fun _ v _ => L - ivN v)
  case atStart => exact ⟨0, _, rfl, rfl, Nat.zero_le _, by simp [usedV], rfl⟩
  case round =>
    obtain ⟨i, u, rfl, rfl, hi, hu, rfl⟩ := hrel
    have hub := usedV_bound (V.take i) (fun p hp => H.out.big p (List.mem_of_mem_take hp))
    have hub2 : -5000 ≤ u ∧ u ≤ 5000 := by
      rw [List.length_take] at hub
      omega
    have HU := hid hu
    clear hu hub
    by_cases hlt : i < L
    · have hd : decide ((i : Int) < (L : Int)) = true := decide_eq_true (by omega)
      have hil : i < V.length := by have := HL.out; omega
      obtain ⟨ga, rfl, hc⟩ := H.out.cells (by omega)
      have y := (hc i hil).2
      have hbig := H.out.big _ (List.getElem_mem hil)
      have HNE := hid (usedV_take V i hil)
      obtain ⟨d, hdd⟩ : ∃ d, d = V[i].2.length := ⟨_, rfl⟩
      rw [← hdd] at y hbig HNE
      obtain ⟨nd, hnd⟩ : ∃ nd, nd = needN d := ⟨_, rfl⟩
      have hd1 : ((d : Int) + 63) / 64 = (nd : Int) := by rw [hnd]; unfold needN; omega
      have hnd2 : nd ≤ 64 := by rw [hnd]; unfold needN; omega
      rw [← hnd] at HNE
      clear hc hdd hnd
      go_wp2
      exact ⟨⟨i + 1, _, rfl, rfl, by omega, by rw [HNE.out, HU.out]; omega, rfl⟩, by simp [ivN]; omega⟩
    · obtain rfl : i = L := by omega
      have hd : decide ((i : Int) < (i : Int)) = false := by simp
      go_wp2
      go_ret
      exact ⟨ret_int (by rw [HU.out, List.take_of_length_le (by rw [HL.out]; exact Nat.le_refl _)]), rfl⟩
end Go.Proofs.YtnjadfgfpebkdaaGreat.S
namespace Go.Proofs.YtnjadfgfpebkdaaGreat.S
open Go.RowKit
set_option linter.unusedVariables false

/-- The row of a number. -/
def atV (V : List (Int × List Nat)) (id : Int) : Option (List Nat) := (V.find? fun p => decide (p.1 = id)).map Prod.snd
theorem atV_some {V : List (Int × List Nat)} {id : Int} (hr : V.Pairwise (fun a b => a.1 < b.1)) {i : Nat} (hi : i < V.length) (e : V[i].1 = id) : atV V id = some V[i].2 := by
  unfold atV
  cases h : V.find? (fun p => decide (p.1 = id)) with
  | none =>
    have := List.find?_eq_none.1 h _ (List.getElem_mem hi)
    simp [e] at this
  | some p =>
    have h1 := List.find?_some h
    simp only [decide_eq_true_eq] at h1
    obtain ⟨j, hj, rfl⟩ := List.getElem_of_mem (List.mem_of_find?_eq_some h)
    rw [List.pairwise_iff_getElem] at hr
    have : i = j := by
      rcases Nat.lt_trichotomy i j with h2 | h2 | h2
      · have := hr i j hi hj h2; omega
      · exact h2
      · have := hr j i hj hi h2; omega
    subst this
    rfl
theorem atV_none {V : List (Int × List Nat)} {id : Int} (h : ∀ p ∈ V, p.1 ≠ id) : atV V id = none := by
  unfold atV
  rw [List.find?_eq_none.2 (fun p hp => by simp [h p hp])]
  rfl
set_option maxRecDepth 100000 in
set_option maxHeartbeats 2000000 in
theorem within_any (off k : Int) (size : Nat) (w : World) (hs : size ≤ 4096) (ho : i64ok off) :
    Calls Tryz.prog 77 #[.int .i64 off, .int .i64 k, .int .i64 (size : Int)] w fun e w' => e = .returned (.bool (decide (0 ≤ off ∧ 0 ≤ k ∧ k ≤ 1024 ∧ off + k ≤ (size : Int)))) ∧ w' = w := by
  unfold i64ok at ho
  obtain ⟨d, hd⟩ : ∃ d, d = decide (0 ≤ off ∧ 0 ≤ k ∧ k ≤ 1024 ∧ off + k ≤ (size : Int)) := ⟨_, rfl⟩
  rw [← hd]
  have HD := hid hd
  clear hd
  by_cases h1 : off ≥ 0
  · have hd1 : decide (off ≥ 0) = true := decide_eq_true h1
    have hwr : IntKind.i64.wrap ((size : Int) - off) = (size : Int) - off := by rw [IntKind.wrap_i64]; omega
    by_cases h2 : k ≥ 0
    · have hd2 : decide (k ≥ 0) = true := decide_eq_true h2
      by_cases h3 : k ≤ 1024
      · have hd3 : decide (k ≤ 1024) = true := decide_eq_true h3
        by_cases h4 : off ≤ (size : Int)
        · have hd4 : decide (off ≤ (size : Int)) = true := decide_eq_true h4
          clear ho
          go_enter Tryz.func77, Tryz.ntmps77
          go_wp2
          go_ret
          refine ⟨ret_bool ?_, rfl⟩
          rw [HD.out]
          congr 1
          exact propext ⟨fun h => ⟨h1, h2, h3, by omega⟩, fun h => by omega⟩
        · have hd4 : decide (off ≤ (size : Int)) = false := decide_eq_false h4
          clear ho
          go_enter Tryz.func77, Tryz.ntmps77
          go_wp2
          go_ret
          exact ⟨ret_bool (by rw [HD.out]; exact (decide_eq_false (by omega)).symm), rfl⟩
      · have hd3 : decide (k ≤ 1024) = false := decide_eq_false h3
        clear ho
        go_enter Tryz.func77, Tryz.ntmps77
        go_wp2
        go_ret
        exact ⟨ret_bool (by rw [HD.out]; exact (decide_eq_false (by omega)).symm), rfl⟩
    · have hd2 : decide (k ≥ 0) = false := decide_eq_false h2
      clear ho
      go_enter Tryz.func77, Tryz.ntmps77
      go_wp2
      go_ret
      exact ⟨ret_bool (by rw [HD.out]; exact (decide_eq_false (by omega)).symm), rfl⟩
  · have hd1 : decide (off ≥ 0) = false := decide_eq_false h1
    clear ho
    go_enter Tryz.func77, Tryz.ntmps77
    go_wp2
    go_ret
    exact ⟨ret_bool (by rw [HD.out]; exact (decide_eq_false (by omega)).symm), rfl⟩
/-- What May answers. -/
def mayV (room n : Nat) (nx : Int) (V : List (Int × List Nat)) (size : Int) : Int :=
  if size < 0 ∨ 4096 < size then 6 else if room ≤ V.length ∨ 4611686018427387904 < nx then 7 else if (n : Int) - (usedV V : Int) < (needN size.toNat : Int) then 8 else 0
set_option maxRecDepth 100000 in
set_option maxHeartbeats 2000000 in
theorem rmay_any (base r room n : Nat) (nx : Int) (V : List (Int × List Nat)) (G : Int → Nat) (a : Option Addr) (cap : Nat) (col : Nat → Nat) (size : Int) (w : World) (h : Rf w base r room n nx V G a cap col) :
    Calls Tryz.prog 81 #[.pointer (some ⟨r, 0, none⟩), .int .i64 size] w fun e w' => e = .returned (.int .i64 (mayV room n nx V size)) ∧ ∃ d, w' = w.drewN d := by
  obtain ⟨E, hE⟩ : ∃ E, E = mayV room n nx V size := ⟨_, rfl⟩
  rw [← hE]
  have HE := hid hE
  have H := hid h
  clear hE
  by_cases h1 : size < 0
  · have hd1 : decide (size < 0) = true := decide_eq_true h1
    clear h
    go_enter Tryz.func81, Tryz.ntmps81
    go_wp2
    go_ret
    exact ⟨ret_int (by rw [HE.out, mayV, if_pos (.inl h1)]), 0, rfl⟩
  have hd1 : decide (size < 0) = false := decide_eq_false h1
  by_cases h2 : size > 4096
  · have hd2 : decide (size > 4096) = true := decide_eq_true h2
    clear h
    go_enter Tryz.func81, Tryz.ntmps81
    go_wp2
    go_ret
    exact ⟨ret_int (by rw [HE.out, mayV, if_pos (.inr h2)]), 0, rfl⟩
  have hd2 : decide (size > 4096) = false := decide_eq_false h2
  obtain ⟨k, rfl⟩ : ∃ k : Nat, size = (k : Int) := ⟨size.toNat, by omega⟩
  have hk : k ≤ 4096 := by omega
  have e1 : mayV room n nx V (k : Int) = if room ≤ V.length ∨ 4611686018427387904 < nx then 7 else if (n : Int) - (usedV V : Int) < (needN k : Int) then 8 else 0 := by
    rw [mayV, if_neg (by omega), Int.toNat_natCast]
  rw [e1] at HE
  have x0 := h.c0.1
  have x2 := h.c2.1
  have x3 := h.c3.1
  obtain ⟨len, hl⟩ : ∃ len, len = V.length := ⟨_, rfl⟩
  rw [← hl] at x2
  have HL := hid hl
  clear h e1 h1 h2 hl
  by_cases h3 : (len : Int) ≥ (room : Int)
  · have hd3 : decide ((len : Int) ≥ (room : Int)) = true := decide_eq_true h3
    have hd3b : decide (room ≤ len) = true := decide_eq_true (by omega)
    go_enter Tryz.func81, Tryz.ntmps81
    go_wp2
    go_quiet (fail)
    go_wp2
    go_ret
    exact ⟨ret_int (by rw [HE.out, if_pos (.inl (by have := HL.out; omega))]), _, rfl⟩
  have hd3 : decide ((len : Int) ≥ (room : Int)) = false := decide_eq_false h3
  have hd3b : decide (room ≤ len) = false := decide_eq_false (by omega)
  have hd3c : ¬ room ≤ len := by omega
  by_cases h4 : nx > 4611686018427387904
  · have hd4 : decide (nx > 4611686018427387904) = true := decide_eq_true h4
    go_enter Tryz.func81, Tryz.ntmps81
    go_wp2
    go_quiet (fail)
    go_wp2
    go_ret
    exact ⟨ret_int (by rw [HE.out, if_pos (.inr h4)]), _, rfl⟩
  have hd4 : decide (nx > 4611686018427387904) = false := decide_eq_false h4
  have e2 : ¬ (room ≤ V.length ∨ 4611686018427387904 < nx) := by
    have := HL.out
    omega
  rw [if_neg e2] at HE
  clear e2
  have HF : Hid (∀ d, Rf (w.drewN d) base r room n nx V G a cap col) := hid (fun d => H.out.later (below_drewN (Below.refl _ _) d))
  obtain ⟨fr, hfr⟩ : ∃ fr : Int, fr = (n : Int) - (usedV V : Int) := ⟨_, rfl⟩
  rw [← hfr] at HE
  have HFR := hid hfr
  clear hfr
  obtain ⟨nq, hnq⟩ : ∃ nq, nq = needN k := ⟨_, rfl⟩
  have hnq1 : ((k : Int) + 63) / 64 = (nq : Int) := by rw [hnq]; unfold needN; omega
  have hnq2 : nq ≤ 64 := by rw [hnq]; unfold needN; omega
  rw [← hnq] at HE
  clear hnq
  by_cases h5 : (nq : Int) > fr
  · have hd5 : decide ((nq : Int) > fr) = true := decide_eq_true h5
    go_enter Tryz.func81, Tryz.ntmps81
    go_wp2
    go_quiet (fail)
    go_wp2_with (first
      | (go_at_call 58; refine (rfree_any base r room n nx V G a cap col _ (HF.out _)).mono ?_; rintro e w1 ⟨rfl, hw⟩; obtain rfl := hw.symm; rw [← HFR.out]))
    go_ret
    exact ⟨ret_int (by rw [HE.out, if_pos (by omega)]), _, rfl⟩
  · have hd5 : decide ((nq : Int) > fr) = false := decide_eq_false h5
    go_enter Tryz.func81, Tryz.ntmps81
    go_wp2
    go_quiet (fail)
    go_wp2_with (first
      | (go_at_call 58; refine (rfree_any base r room n nx V G a cap col _ (HF.out _)).mono ?_; rintro e w1 ⟨rfl, hw⟩; obtain rfl := hw.symm; rw [← HFR.out]))
    go_ret
    exact ⟨ret_int (by rw [HE.out, if_neg (by omega)]), _, rfl⟩
/-- What Size answers. -/
def szV : Option (List Nat) → Value
  | some l => .tuple #[.int .i64 (l.length : Int), .bool true]
  | none => .tuple #[.int .i64 0, .bool false]
set_option maxRecDepth 100000 in
set_option maxHeartbeats 1000000 in
theorem rsize_any (base r room n : Nat) (nx : Int) (V : List (Int × List Nat)) (G : Int → Nat) (a : Option Addr) (cap : Nat) (col : Nat → Nat) (id : Int) (w : World) (h : Rf w base r room n nx V G a cap col) :
    Calls Tryz.prog 60 #[.pointer (some ⟨r, 0, none⟩), .int .i64 id] w fun e w' => e = .returned (szV (atV V id)) ∧ w' = w := by
  have x := h.c2.1
  have H := hid h
  have hcap := h.cap_
  clear h
  go_enter Tryz.func60, Tryz.ntmps60
  go_upto_region 2 with (first | (go_at_call 76; refine (rat_any base r room n nx V G a cap col id _ H.out).mono ?_; rintro e w1 ⟨v, rfl, hI, hw⟩; obtain rfl := hw.symm))
  rcases hI with ⟨i, hi, rfl, e⟩ | ⟨rfl, hn⟩
  · have hd : decide ((i : Int) < 0) = false := decide_eq_false (by omega)
    obtain ⟨ga, rfl, hc⟩ := H.out.cells (by omega)
    have y := (hc i hi).2
    have HAV := hid (atV_some H.out.rise hi e)
    obtain ⟨d, hdd⟩ : ∃ d, d = V[i].2.length := ⟨_, rfl⟩
    obtain ⟨L, hL⟩ : ∃ L, L = V.length := ⟨_, rfl⟩
    have HD := hid hdd
    rw [← hdd] at y
    rw [← hL] at x hcap
    have hiL : i < L := by omega
    clear hc hdd hL e
    go_wp2
    exact bodyPost_ret (v := .tuple #[.int .i64 (d : Int), .bool true]) (by simp [results, Tryz.results60, go_sem]) rfl ⟨by rw [HAV.out, HD.out]; rfl, rfl⟩
  · have HAV := hid (atV_none hn)
    go_wp2
    exact bodyPost_ret (v := .tuple #[.int .i64 0, .bool false]) (by simp [results, Tryz.results60, go_sem]) rfl ⟨by rw [HAV.out]; rfl, rfl⟩
def IdRel (V : List (Int × List Nat)) (L : Nat) (w : World) (v3 v4 : Value) (w' : World) : Prop := ∃ (i : Nat) (b : Option Addr) (c : Nat), v3 = .slice b i c ∧ v4 = .int .i64 (i : Int) ∧ i ≤ L ∧ Own w' w.heap.size 3 b i c (ints ((V.take i).map Prod.fst)) ∧ Below w.heap.size w w'
set_option maxRecDepth 100000 in
set_option maxHeartbeats 1000000 in
theorem rids_any (base r room n : Nat) (nx : Int) (V : List (Int × List Nat)) (G : Int → Nat) (a : Option Addr) (cap : Nat) (col : Nat → Nat) (w : World) (h : Rf w base r room n nx V G a cap col) :
    Calls Tryz.prog 54 #[.pointer (some ⟨r, 0, none⟩)] w fun e w' => ∃ b c, e = .returned (.slice b V.length c) ∧ Own w' w.heap.size 3 b V.length c (ints (V.map Prod.fst)) ∧ Below w.heap.size w w' := by
  have H := hid h
  have hrm := h.rm
  have hcap := h.cap_
  clear h
  obtain ⟨L, hL⟩ : ∃ L, L = V.length := ⟨_, rfl⟩
  rw [← hL] at hrm hcap
  have HL := hid hL
  clear hL
  go_enter Tryz.func54, Tryz.ntmps54
  go_wp2
  go_loopw [3, 4] (IdRel V L w) (fun _ v _ => L - ivN v)
  case atStart => exact ⟨0, none, 0, rfl, rfl, Nat.zero_le _, Own.nil _ _ _, Below.refl _ _⟩
  case round =>
    obtain ⟨i, b, c, rfl, rfl, hi, hO, hB⟩ := hrel
    have HO := hid hO
    have HB := hid hB
    have HR := hid (H.out.later hB)
    have x := HR.out.c2.1
    rw [← HL.out] at x
    clear hO hB
    by_cases hlt : i < L
    · have hd : decide ((i : Int) < (L : Int)) = true := decide_eq_true (by omega)
      have hil : i < V.length := by have := HL.out; omega
      obtain ⟨ga, rfl, hc⟩ := HR.out.cells (by omega)
      have y := (hc i hil).1
      obtain ⟨vi, hvi⟩ : ∃ vi, vi = V[i].1 := ⟨_, rfl⟩
      rw [← hvi] at y
      have HVI := hid hvi
      clear hc hvi
      obtain ⟨b', c', w2, hrun, hO2, hG⟩ := append_ints (HO.out.alloc (Obj.cells #[Value.int .i64 vi] 3)) (Row.single wr 3 (.int .i64 vi) rfl) (by have := HB.out.size; simp; omega) (by omega)
      have HRUN := hid hrun
      have HB2 : Hid (Below w.heap.size w w2) := hid ((HB.out.alloc HB.out.size _).trans (Gr.below (HO.out.alloc _) hG (by have := HB.out.size; simp; omega)))
      have HO2 : Hid (Own w2 w.heap.size 3 b' (i + 1) c' (ints ((V.take (i + 1)).map Prod.fst))) := hid (by
        rw [List.take_add_one, List.getElem?_eq_getElem hil, List.map_append, ints_append]
        simp only [Option.toList_some, List.map_cons, List.map_nil]
        rw [← HVI.out]
        exact hO2)
      clear hrun hO2 hG
      go_wp2_with (first | (at_builtin; refine wpList_append_known rfl _ _ 36 rfl _ _ rfl rfl _ w2 HRUN.out ?_))
      exact ⟨⟨i + 1, b', c', rfl, rfl, by omega, HO2.out, HB2.out⟩, by simp [ivN]; omega⟩
    · obtain rfl : i = L := by omega
      have hd : decide ((i : Int) < (i : Int)) = false := by simp
      go_wp2
      go_ret
      have hl := HL.out
      subst hl
      rw [List.take_length] at HO
      exact ⟨b, c, rfl, HO.out, HB.out⟩
/-- What a read answers. -/
def rvE (V : List (Int × List Nat)) (id off k : Int) : Int := match atV V id with
  | none => 20
  | some l => if 0 ≤ off ∧ 0 ≤ k ∧ k ≤ 1024 ∧ off + k ≤ (l.length : Int) then 0 else 5
def rvL (V : List (Int × List Nat)) (id off k : Int) : List Nat := match atV V id with
  | none => []
  | some l => if 0 ≤ off ∧ 0 ≤ k ∧ k ≤ 1024 ∧ off + k ≤ (l.length : Int) then (l.drop off.toNat).take k.toNat else []
theorem slice_mid (a : Option Addr) (r cap lo m : Nat) (h1 : lo + m ≤ cap) :
    ∃ a', (∀ W : World, (Instr.sliceAt 87 (.slice a r cap) (some (.int .i64 (lo : Int))) (some (.int .i64 ((lo : Int) + (m : Int)))) none).run Tryz.prog W = .ok (.slice a' m (cap - lo)) W) ∧ (cap = lo ∧ a' = a ∨ a' = a.map (·.add lo)) := by
  have h : ∀ W : World, (Instr.sliceAt 87 (.slice a r cap) (some (.int .i64 (lo : Int))) (some (.int .i64 ((lo : Int) + (m : Int)))) none).run Tryz.prog W = .ok (sliced a lo (lo + m) cap 1) W := fun W => by
    rw [run_sliceAt_slice W 87 _ _ _ _ und30, run_slice_lh W 87 a r cap und30 .i64 .i64 (lo : Int) ((lo : Int) + (m : Int)) (by omega) (by omega) (by omega), size_el30]
    have e : ((lo : Int) + (m : Int)).toNat = lo + m := by omega
    simp [e]
  by_cases hc : cap = lo
  · exact ⟨a, fun W => by rw [h W]; simp [sliced, hc], .inl ⟨hc, rfl⟩⟩
  · exact ⟨a.map (·.add lo), fun W => by rw [h W]; simp [sliced, hc], .inr rfl⟩
set_option maxRecDepth 100000 in
set_option maxHeartbeats 2000000 in
theorem rread_any (base r room n : Nat) (nx : Int) (V : List (Int × List Nat)) (G : Int → Nat) (a : Option Addr) (cap : Nat) (col : Nat → Nat) (id off k : Int) (w : World) (h : Rf w base r room n nx V G a cap col) (ho : i64ok off) :
    Calls Tryz.prog 61 #[.pointer (some ⟨r, 0, none⟩), .int .i64 id, .int .i64 off, .int .i64 k] w fun e w' => ∃ b c, e = .returned (.tuple #[.slice b (rvL V id off k).length c, .int .i64 (rvE V id off k)]) ∧ Own w' w.heap.size 5 b (rvL V id off k).length c (u8s (rvL V id off k)) ∧ Below w.heap.size w w' := by
  have x := h.c2.1
  have H := hid h
  have hcap := h.cap_
  clear h
  go_enter Tryz.func61, Tryz.ntmps61
  go_upto_region 2 with (first | (go_at_call 76; refine (rat_any base r room n nx V G a cap col id _ H.out).mono ?_; rintro e w1 ⟨v, rfl, hI, hw⟩; obtain rfl := hw.symm))
  rcases hI with ⟨i, hi, rfl, e⟩ | ⟨rfl, hn⟩
  · have hd : decide ((i : Int) < 0) = false := decide_eq_false (by omega)
    obtain ⟨ga, rfl, hc⟩ := H.out.cells (by omega)
    have y := (hc i hi).2
    have HAV := hid (atV_some H.out.rise hi e)
    have HCel := hid (H.out.cel _ (List.getElem_mem hi))
    have hbig := H.out.big _ (List.getElem_mem hi)
    obtain ⟨l, hll⟩ : ∃ l, l = V[i].2 := ⟨_, rfl⟩
    obtain ⟨g, hgg⟩ : ∃ g, g = G V[i].1 := ⟨_, rfl⟩
    rw [← hll, ← hgg] at y HCel
    rw [← hll] at HAV hbig
    obtain ⟨L, hL⟩ : ∃ L, L = V.length := ⟨_, rfl⟩
    rw [← hL] at x hcap
    have hiL : i < L := by omega
    obtain ⟨d, hdd⟩ : ∃ d, d = l.length := ⟨_, rfl⟩
    rw [← hdd] at y hbig
    have HD := hid hdd
    clear hc hll hgg hL e hdd
    by_cases hr : 0 ≤ off ∧ 0 ≤ k ∧ k ≤ 1024 ∧ off + k ≤ (d : Int)
    · have hwd : decide (0 ≤ off ∧ 0 ≤ k ∧ k ≤ 1024 ∧ off + k ≤ (d : Int)) = true := decide_eq_true hr
      obtain ⟨o2, rfl⟩ : ∃ q : Nat, off = (q : Int) := ⟨off.toNat, by omega⟩
      obtain ⟨k2, rfl⟩ : ∃ q : Nat, k = (q : Int) := ⟨k.toNat, by omega⟩
      have HV : Hid (rvL V id (o2 : Int) (k2 : Int) = (l.drop o2).take k2 ∧ rvE V id (o2 : Int) (k2 : Int) = 0) := hid (by
        unfold rvL rvE
        rw [HAV.out]
        rw [HD.out] at hr
        constructor
        · simp only [if_pos hr, Int.toNat_natCast]
        · simp only [if_pos hr])
      have hrow : Row w (some ⟨g, 0, none⟩) d d (u8s l) := by
        have := Cel.row HCel.out d (by rw [HD.out]; exact Nat.le_refl _)
        rwa [← HD.out] at this
      obtain ⟨a2, hcut, ha2⟩ := slice_mid (some ⟨g, 0, none⟩) d d o2 k2 (by omega)
      obtain ⟨hR2, _⟩ := hrow.from (f := o2) (by omega) ha2
      have hR3 := hR2.sub (m := k2) (c := d - o2) (by omega) (by omega) (fun e => (hR2.none_ e).2)
      rw [u8s_drop, u8s_take] at hR3
      obtain ⟨b', c', w2, hrun, hO2, hG⟩ := append_bytes (Own.nil w w.heap.size 5) hR3 (Nat.le_refl _) (by omega)
      rw [Nat.zero_add] at hrun hO2
      have HRUN := hid hrun
      have HO2 := hid hO2
      have HB2 := hid (Gr.below (Own.nil w w.heap.size 5) hG (Nat.le_refl _))
      have hcut2 := hcut w
      obtain ⟨hr1, hr2, hr3, hr4⟩ := hr
      clear hrow hR2 hR3 hrun hO2 hG ha2 hcut
      go_wp2_with (first
        | (go_at_call 77; refine (within_any (o2 : Int) (k2 : Int) d _ hbig ho).mono ?_; rintro e w1 ⟨rfl, hw⟩; obtain rfl := hw.symm; rw [hwd])
        | (at_builtin; refine wpList_append_known rfl _ _ 87 rfl _ _ rfl rfl _ w2 HRUN.out ?_))
      have hl : (rvL V id (o2 : Int) (k2 : Int)).length = k2 := by
        rw [HV.out.1, List.length_take, List.length_drop]
        have := HD.out
        omega
      refine bodyPost_ret (v := .tuple #[.slice b' k2 c', .int .i64 0]) (by simp [results, Tryz.results61, go_sem]) rfl ⟨b', c', by rw [hl, HV.out.2], ?_, HB2.out⟩
      rw [hl, HV.out.1]
      exact HO2.out
    · have hwd : decide (0 ≤ off ∧ 0 ≤ k ∧ k ≤ 1024 ∧ off + k ≤ (d : Int)) = false := decide_eq_false hr
      have HV : Hid (rvL V id off k = [] ∧ rvE V id off k = 5) := hid (by
        unfold rvL rvE
        rw [HAV.out]
        rw [HD.out] at hr
        constructor
        · simp only [if_neg hr]
        · simp only [if_neg hr])
      clear hr
      go_wp2_with (first
        | (go_at_call 77; refine (within_any off k d _ hbig ho).mono ?_; rintro e w1 ⟨rfl, hw⟩; obtain rfl := hw.symm; rw [hwd]))
      refine bodyPost_ret (v := .tuple #[.slice none 0 0, .int .i64 5]) (by simp [results, Tryz.results61, go_sem]) rfl ⟨none, 0, by rw [HV.out.1, HV.out.2]; rfl, ?_, Below.refl _ _⟩
      rw [HV.out.1]
      exact Own.nil _ _ _
  · have HAV := hid (atV_none hn)
    go_wp2
    have e1 : rvL V id off k = [] := by unfold rvL; rw [HAV.out]
    have e2 : rvE V id off k = 20 := by unfold rvE; rw [HAV.out]
    refine bodyPost_ret (v := .tuple #[.slice none 0 0, .int .i64 20]) (by simp [results, Tryz.results61, go_sem]) rfl ⟨none, 0, by rw [e1, e2]; rfl, ?_, Below.refl _ _⟩
    rw [e1]
    exact Own.nil _ _ _
end Go.Proofs.YtnjadfgfpebkdaaGreat.S
namespace Go.Proofs.YtnjadfgfpebkdaaGreat.S
open Go.RowKit
set_option linter.unusedVariables false

theorem info127 : (Tryz.prog.info? 127).map (fun i => (i.zero, i.size, i.bytes)) = some (some (.agg #[.int .i64 0, .int .i64 0, .slice none 0 0, .int .i64 0]), 4, 48) := by kernel_rfl
theorem info158 : (Tryz.prog.info? 158).map (fun i => (i.zero, i.size, i.bytes)) = some (some (.agg #[.int .i64 0, .slice none 0 0]), 2, 32) := by kernel_rfl
/-- Objects behind objects. -/
theorem append_gen2 {u : World} {base : Nat} {a : Option Addr} {n cap : Nat} {L : List Value} {b : Option Addr} {m c : Nat} {M : List Value} (h : u.ownsRow base 158 2 (.slice a n cap) n L) (hl : M.length = m * 2) (hnone : b = none → m = 0 ∧ c = 0) (hcells : ∀ x, b = some x → ∀ j v, M[j]? = some v → u.cell? (x.add j) = some v) (hone : ∀ v ∈ M, v.oneCell' = true) (hb : base ≤ u.heap.size) (hn : n + m ≤ 4096) :
    ∃ a' cap' u', (Builtin.append_ #[125, 125] 125 #[.slice a n cap, .slice b m c]).run Tryz.prog u = .ok (.slice a' (n + m) cap') u' ∧ u'.ownsRow base 158 2 (.slice a' (n + m) cap') (n + m) (L ++ M) ∧ Gr a a' u u' := by
  obtain ⟨i, hi, hz0, hz1, hz2⟩ := info_parts info158
  cases b with
  | none =>
    obtain ⟨rfl, rfl⟩ := hnone rfl
    have hM : M = [] := List.eq_nil_of_length_eq_zero (by omega)
    subst hM
    have hr := run_append_owned_none (P := Tryz.prog) (w := u) base 125 125 158 i 2 Tryz.underlying125 hi _ n _ h
    exact ⟨a, cap, u, hr, by simpa using h, Gr.refl _ _⟩
  | some x =>
    obtain ⟨v', w', hr, h2, h3, _, h5⟩ := run_append_own_at (P := Tryz.prog) u base 125 125 158 i _ 2 32 Tryz.underlying125 hi hz0 hz1 hz2 rfl (by decide) _ n _ h x m c M hl (hcells x rfl) hone (by unfold maxLen; omega) (by omega) hb
    obtain ⟨a', cap', rfl⟩ : ∃ a' cap', v' = .slice a' (n + m) cap' := by
      rcases h2.2 with ⟨h, h'⟩ | ⟨g', cap', _, h, _⟩
      · exact ⟨.none, 0, by rw [h, h']⟩
      · exact ⟨_, cap', h⟩
    refine ⟨a', cap', w', hr, h2, ⟨h3.os, h3.tape, h3.output, h3.size, fun j hj hn => h3.block j hj (fun e => hn (Blk.of.1 e.symm))⟩, fun j hj => ?_⟩
    rcases h5 with h5 | h5
    · rw [Blk.of.2 hj] at h5
      exact .inl (Blk.of.1 h5.symm)
    · rw [Blk.of.2 hj] at h5
      right
      simp at h5
      omega
set_option maxRecDepth 100000 in
set_option maxHeartbeats 1000000 in
theorem rnew_ok (base room n : Nat) (w : World) (h1 : 1 ≤ room ∧ room ≤ 64) (h2 : 1 ≤ n ∧ n ≤ 256) (hb : base ≤ w.heap.size) :
    Calls Tryz.prog 33 #[.int .i64 (room : Int), .int .i64 (n : Int)] w fun e w' => ∃ r, e = .returned (.tuple #[.pointer (some ⟨r, 0, none⟩), .int .i64 0]) ∧ Rf w' base r room n 1 [] (fun _ => 0) none 0 (fun k => if k = r then 1 else 0) ∧ r = w.heap.size ∧ Below w.heap.size w w' := by
  have hd1 : decide ((room : Int) < 1) = false := decide_eq_false (by omega)
  have hd2 : decide ((room : Int) > 64) = false := decide_eq_false (by omega)
  have hd3 : decide ((n : Int) < 1) = false := decide_eq_false (by omega)
  have hd4 : decide ((n : Int) > 256) = false := decide_eq_false (by omega)
  have hz := zero_of info127
  go_enter Tryz.func33, Tryz.ntmps33
  go_wp2
  refine bodyPost_ret (v := .tuple #[.pointer (some ⟨w.heap.size, 0, none⟩), .int .i64 0]) (by simp [results, Tryz.results33, go_sem]) rfl ⟨w.heap.size, rfl, ⟨lies_new _ _ _ 0 _ rfl, lies_new _ _ _ 1 _ rfl, lies_new _ _ _ 2 _ rfl, lies_new _ _ _ 3 _ rfl, ⟨rfl, .inl ⟨rfl, rfl⟩⟩, fun p hp => (by cases hp), if_pos rfl, fun k hk => (by obtain ⟨_, h, _⟩ := hk; cases h), fun p hp => (by cases hp), fun k hk => ?_, fun k hk => ?_, by simp; omega, List.Pairwise.nil, fun p hp => (by cases hp), by omega, ⟨by simp, h1.2⟩, h2.2, fun p hp => (by cases hp), fun p hp => (by cases hp)⟩, rfl, below1 _ _⟩
  · by_cases e : k = w.heap.size
    · simp; omega
    · rw [if_neg e] at hk
      exact absurd rfl hk
  · by_cases e : k = w.heap.size
    · omega
    · rw [if_neg e] at hk
      exact absurd rfl hk
end Go.Proofs.YtnjadfgfpebkdaaGreat.S
namespace Go.Proofs.YtnjadfgfpebkdaaGreat.S
open Go.RowKit
set_option linter.unusedVariables false
set_option linter.unusedSimpArgs false

theorem Rf.create {w1 U w4 : World} {base r room n : Nat} {nx : Int} {V : List (Int × List Nat)} {G : Int → Nat} {a a' : Option Addr} {cap cap' k : Nat} {col : Nat → Nat} (h : Rf w1 base r room n nx V G a cap col) (hBU : Below w1.heap.size w1 U) (hUS : U.heap.size = w1.heap.size + 2) (hUZ : ∀ j, j < k → Lies U ⟨w1.heap.size, j, none⟩ (.int .u8 0)) (hG : Gr a a' U w4)
    (hO : w4.ownsRow base 158 2 (.slice a' (V.length + 1) cap') (V.length + 1) (rcs G V ++ [.int .i64 nx, .slice (some ⟨w1.heap.size, 0, none⟩) k k])) (hk : k ≤ 4096) (hnx : nx ≤ 4611686018427387904) (hroom : V.length < room) :
    Rf ((w4.setCell ⟨r, 2, none⟩ (.slice a' (V.length + 1) cap')).setCell ⟨r, 3, none⟩ (.int .i64 (nx + 1))) base r room n (nx + 1) (V ++ [(nx, List.replicate k 0)]) (newG G nx w1.heap.size) a' cap' (fun j => if j = w1.heap.size then 10 + nx.toNat else if w1.heap.size ≤ j ∧ j < w4.heap.size then 2 else col j) := by
  have hr2 : ∀ k, Blk a k → ¬ k = r := fun k hk e => by
    have h1 := h.k2 k hk
    rw [e, h.k1] at h1
    omega
  have hrl := h.lt r (by rw [h.k1]; decide)
  have hU := h.later hBU
  have hs4 := hG.but.size
  have hra : ¬ Blk a r := fun e => hr2 r e rfl
  generalize hW : (w4.setCell ⟨r, 2, none⟩ (.slice a' (V.length + 1) cap')).setCell ⟨r, 3, none⟩ (.int .i64 (nx + 1)) = W
  have b4 : But (· = r) w4 W := by
    rw [← hW]
    exact But.setCell (S := (· = r)) (But.setCell (S := (· = r)) (But.refl _ _) (p := ⟨r, 2, none⟩) (show r = r from rfl) _) (p := ⟨r, 3, none⟩) (show r = r from rfl) _
  have hin : ∀ j, col j ≠ 0 → (if j = w1.heap.size then 10 + nx.toNat else if w1.heap.size ≤ j ∧ j < w4.heap.size then 2 else col j) = col j := fun j hj => by
    have := h.lt j hj
    rw [if_neg (by omega), if_neg (by omega)]
  have hnx1 := h.nx1
  have hGo : ∀ p ∈ V, newG G nx w1.heap.size p.1 = G p.1 := fun p hp => by
    unfold newG
    rw [if_neg (by have := h.ids p hp; omega)]
  have hGn : newG G nx w1.heap.size nx = w1.heap.size := by simp [newG]
  have hmem : ∀ p ∈ V ++ [(nx, List.replicate k 0)], p ∈ V ∨ p = (nx, List.replicate k 0) := fun p hp => by simpa using hp
  have q0 := (hU.c0).but hG.but hra
  have q1 := (hU.c1).but hG.but hra
  have q2 := (hU.c2).but hG.but hra
  have q3 := (hU.c3).but hG.but hra
  have hcolG : ∀ p ∈ V, ¬ Blk a (G p.1) := fun p hp e => by
    have h1 := h.k2 _ e
    rw [h.k3 p hp] at h1
    omega
  have hGr : ∀ p ∈ V, ¬ G p.1 = r := fun p hp e => by
    have h1 := h.k3 p hp
    rw [e, h.k1] at h1
    omega
  refine ⟨?_, ?_, ?_, ?_, ?_, fun p hp => ?_, ?_, fun j hj => ?_, fun p hp => ?_, fun j hj => ?_, fun j hj => ?_, ?_, ?_, fun p hp => ?_, by omega, ⟨by simp; omega, h.rm.2⟩, h.nn, fun p hp => ?_, fun p hp => ?_⟩
  · rw [← hW]; exact (q0.other (by simp)).other (by simp)
  · rw [← hW]; exact (q1.other (by simp)).other (by simp)
  · rw [← hW]
    have e : (V ++ [(nx, List.replicate k 0)]).length = V.length + 1 := by simp
    rw [e]
    exact q2.put.other (by simp)
  · rw [← hW]; exact (q3.other (by simp)).put
  · have e : (V ++ [(nx, List.replicate k 0)]).length = V.length + 1 := by simp
    rw [e, rcs_append, rcs_congr (G := newG G nx w1.heap.size) (G' := G) hGo]
    have e2 : rcs (newG G nx w1.heap.size) [(nx, List.replicate k 0)] = [.int .i64 nx, .slice (some ⟨w1.heap.size, 0, none⟩) k k] := by simp [rcs, hGn]
    rw [e2]
    refine own_but b4 hO (fun j hj e3 => ?_)
    rcases hG.on j (Blk.of.1 hj) with h1 | h1
    · exact hr2 j h1 e3
    · omega
  · rcases hmem p hp with h1 | rfl
    · rw [hGo p h1]
      exact ((hU.cel p h1).but hG.but (hcolG p h1)).but b4 (hGr p h1)
    · rw [hGn]
      simp only [List.length_replicate]
      intro j hj
      have e : (List.replicate k 0 : List Nat).getD j 0 = 0 := by simp [List.getD_eq_getElem?_getD, hj]
      simp only [e]
      refine ((hUZ j hj).but hG.but (fun e2 => ?_)).but b4 (fun e2 => ?_)
      · have := h.lt _ (by rw [h.k2 _ e2]; decide)
        simp only at this
        omega
      · simp only at e2
        omega
  · rw [hin r (by rw [h.k1]; decide)]
    exact h.k1
  · rcases hG.on j hj with h1 | h1
    · rw [hin j (by rw [h.k2 j h1]; decide)]
      exact h.k2 j h1
    · rw [if_neg (by omega), if_pos ⟨by omega, (own_block hO j (Blk.of.2 hj)).2⟩]
  · rcases hmem p hp with h1 | rfl
    · rw [hGo p h1, hin _ (by rw [h.k3 p h1]; omega)]
      exact h.k3 p h1
    · rw [hGn, if_pos rfl]
  · refine Nat.lt_of_lt_of_le ?_ b4.size
    by_cases e1 : j = w1.heap.size
    · omega
    · rw [if_neg e1] at hj
      by_cases e2 : w1.heap.size ≤ j ∧ j < w4.heap.size
      · exact e2.2
      · rw [if_neg e2] at hj
        have := h.lt j hj
        omega
  · have hb := h.hb
    by_cases e1 : j = w1.heap.size
    · omega
    · rw [if_neg e1] at hj
      by_cases e2 : w1.heap.size ≤ j ∧ j < w4.heap.size
      · omega
      · rw [if_neg e2] at hj
        exact h.ge j hj
  · have := h.hb
    have := b4.size
    omega
  · rw [List.pairwise_append]
    refine ⟨h.rise, by simp, fun p hp q hq => ?_⟩
    simp only [List.mem_singleton] at hq
    subst hq
    exact (h.ids p hp).2
  · rcases hmem p hp with h1 | rfl
    · have := h.ids p h1
      omega
    · simp only
      omega
  · rcases hmem p hp with h1 | rfl
    · exact h.big p h1
    · simpa using hk
  · rcases hmem p hp with h1 | rfl
    · exact h.small p h1
    · intro x hx
      have := List.eq_of_mem_replicate hx
      omega
set_option maxRecDepth 100000 in
set_option maxHeartbeats 2000000 in
theorem rcreate_ok (base r room n : Nat) (nx : Int) (V : List (Int × List Nat)) (G : Int → Nat) (a : Option Addr) (cap : Nat) (col : Nat → Nat) (k : Nat) (w : World) (h : Rf w base r room n nx V G a cap col) (hE : mayV room n nx V (k : Int) = 0) :
    Calls Tryz.prog 37 #[.pointer (some ⟨r, 0, none⟩), .int .i64 (k : Int)] w fun e w' => ∃ G' a' cap' col', e = .returned (.tuple #[.int .i64 nx, .int .i64 0]) ∧ Rf w' base r room n (nx + 1) (V ++ [(nx, List.replicate k 0)]) G' a' cap' col' ∧ (∀ j, col' j ≠ 0 → col j ≠ 0 ∨ w.heap.size ≤ j) ∧ But (fun j => col j ≠ 0) w w' := by
  have H := hid h
  have HE := hid hE
  have hk : k ≤ 4096 := by
    unfold mayV at hE
    split at hE <;> omega
  obtain ⟨Z, hZ, hmk⟩ := make_zeros k (by omega)
  have hlim : V.length < room ∧ nx ≤ 4611686018427387904 := by
    unfold mayV at hE
    repeat' split at hE
    · omega
    · omega
    · omega
    · omega
  have HRO := hid hlim.1
  have HNX := hid hlim.2
  clear h hE hlim
  go_enter Tryz.func37, Tryz.ntmps37
  go_upto_region 4 with (first | (go_at_call 81; refine (rmay_any base r room n nx V G a cap col (k : Int) _ H.out).mono ?_; rintro e w1 ⟨rfl, d, hw⟩; rw [HE.out]; obtain rfl := hw))
  have H1 := hid (H.out.later (below_drewN (Below.refl _ _) d))
  generalize hw1 : w.drewN d = w1 at *
  have x2 := H1.out.c2.1
  have x3 := H1.out.c3.1
  have x2f := H1.out.c2.2
  have x3f := H1.out.c3.2
  have hba := below1 w1 (Obj.cells Z 5)
  have hbb := below2 w1 (Obj.cells Z 5) (Obj.cells #[Value.int .i64 nx, Value.slice (some ⟨w1.heap.size, 0, none⟩) k k] 158)
  have y2 := cell_later hba x2
  have y3 := cell_later hba x3
  have z2 := cell_later hbb x2
  have z3 := cell_later hbb x3
  obtain ⟨U, hU⟩ : ∃ U, U = ((w1.alloc (Obj.cells Z 5)).alloc (Obj.cells #[Value.int .i64 nx, Value.slice (some ⟨w1.heap.size, 0, none⟩) k k] 158)).drew := ⟨_, rfl⟩
  have HBU : Hid (Below w1.heap.size w1 U) := hid (by rw [hU]; exact hbb.drew)
  have HUC : Hid (∀ j v, [Value.int .i64 nx, Value.slice (some ⟨w1.heap.size, 0, none⟩) k k][j]? = some v → Lies U ⟨w1.heap.size + 1, j, none⟩ v) := hid (fun j v hv => by
    rw [hU]
    have := lies_new (w1.alloc (Obj.cells Z 5)) #[Value.int .i64 nx, Value.slice (some ⟨w1.heap.size, 0, none⟩) k k] 158 j v (by simpa using hv)
    rw [World.size_alloc] at this
    exact this)
  have HUZ : Hid (∀ j, j < k → Lies U ⟨w1.heap.size, j, none⟩ (.int .u8 0)) := hid (fun j hj => by
    rw [hU]
    have h1 := lies_new w1 Z 5 j (.int .u8 0) (by rw [← Array.getElem?_toList, hZ]; simp [u8s, hj])
    exact h1.later (below1 _ _).drew)
  have HUS : Hid (U.heap.size = w1.heap.size + 2) := hid (by rw [hU]; simp)
  have hrm := H1.out.rm
  obtain ⟨a', cap', w4, hrun, hO4, hG4⟩ := append_gen2 (own_below HBU.out H1.out.own) (b := some ⟨w1.heap.size + 1, 0, none⟩) (m := 1) (c := 1) (M := [Value.int .i64 nx, Value.slice (some ⟨w1.heap.size, 0, none⟩) k k]) rfl (fun e => by cases e) (fun x hx j v hv => by
    cases hx
    rw [addr_add0]
    exact (HUC.out j v hv).1) (fun v hv => by
    simp only [List.mem_cons, List.not_mem_nil, or_false] at hv
    rcases hv with rfl | rfl <;> rfl) (by have := H1.out.hb; have := HUS.out; omega) (by omega)
  have HO4 := hid hO4
  have HG4 := hid hG4
  have hr2 : ∀ k, Blk a k → ¬ k = r := fun k hk e => by
    have h1 := H1.out.k2 k hk
    rw [e, H1.out.k1] at h1
    omega
  have v2 := (H1.out.c2.later HBU.out).but hG4.but (fun e => hr2 _ e rfl)
  have v3 := (H1.out.c3.later HBU.out).but hG4.but (fun e => hr2 _ e rfl)
  have v2a := v2.1
  have v2b := v2.2
  have v3a := v3.1
  have v3b := v3.2
  have hwr : IntKind.i64.wrap (nx + 1) = nx + 1 := by have := H1.out.nx1; rw [IntKind.wrap_i64]; omega
  have hwr2 : IntKind.i64.wrap (nx + 1 - 1) = nx := by have := H1.out.nx1; rw [IntKind.wrap_i64]; omega
  have hwr3 : wrap64 nx = nx := by have := H1.out.nx1; unfold wrap64; omega
  rw [hU] at hrun
  have HRUN := hid hrun
  have x2d : w1.drew.cell? ⟨r, 2, none⟩ = some (.slice a V.length cap) := x2
  have x3d : w1.drew.cell? ⟨r, 3, none⟩ = some (.int .i64 nx) := x3
  have y2d : (w1.alloc (Obj.cells Z 5)).drew.cell? ⟨r, 2, none⟩ = some (.slice a V.length cap) := y2
  have y3d : (w1.alloc (Obj.cells Z 5)).drew.cell? ⟨r, 3, none⟩ = some (.int .i64 nx) := y3
  clear hba hbb hU hO4 hG4 v2 v3 hrm hrun
  refine wp_region_held_drew (S := fun _ => True) (by kernel_rfl) (trivial) (fun hHeld => ?_)
  refine wpAnyH_norm (l2 := #[false, false, false, false, false, false, false, false, false, false, false, false, false, false, false, false, false]) (f2 := 17) (by kernel_rfl) (by kernel_rfl) ?_
  refine wpAnyH_take (i := 0) (oi := _) (v := ?_) rfl (by kernel_rfl) (by kernel_rfl) (by kernel_rfl) (fun _ _ _ h => h) (Or.inl ⟨by rfl, ?_⟩) (by assumption) ?_
  rotate_left
  · (intro w hSw; (try dsimp only at hSw); go_simp; try with_reducible rfl)
  simp only [List.getElem_toArray, List.getElem_cons_succ, List.getElem_cons_zero, Act.put, List.setIfInBounds_toArray, List.set_cons_zero, List.set_cons_succ]
  refine wpAnyH_norm (l2 := #[true, false, false, false, false, false, false, false, false, false, false, false, false, false, false, false, false]) (f2 := 16) (by kernel_rfl) (by kernel_rfl) ?_
  refine wpAnyH_take (i := 1) (oi := _) (v := ?_) rfl (by kernel_rfl) (by kernel_rfl) (by kernel_rfl) (fun _ _ _ h => h) (Or.inl ⟨by rfl, ?_⟩) (by assumption) ?_
  rotate_left
  · (intro w hSw; (try dsimp only at hSw); go_simp; try with_reducible rfl)
  simp only [List.getElem_toArray, List.getElem_cons_succ, List.getElem_cons_zero, Act.put, List.setIfInBounds_toArray, List.set_cons_zero, List.set_cons_succ]
  refine wpAnyH_norm (l2 := #[true, true, false, false, false, false, false, false, false, false, false, false, false, false, false, false, false]) (f2 := 15) (by kernel_rfl) (by kernel_rfl) ?_
  refine wpAnyH_take (i := 2) (oi := _) (v := ?_) rfl (by kernel_rfl) (by kernel_rfl) (by kernel_rfl) (fun _ _ _ h => h) (Or.inl ⟨by rfl, ?_⟩) (by assumption) ?_
  rotate_left
  · (intro w hSw; (try dsimp only at hSw); go_simp; try with_reducible rfl)
  simp only [List.getElem_toArray, List.getElem_cons_succ, List.getElem_cons_zero, Act.put, List.setIfInBounds_toArray, List.set_cons_zero, List.set_cons_succ]
  refine wpAnyH_norm (l2 := #[true, true, true, false, false, false, false, false, false, false, false, false, false, false, false, false, false]) (f2 := 14) (by kernel_rfl) (by kernel_rfl) ?_
  refine wpAnyH_take (i := 3) (oi := _) (v := ?_) rfl (by kernel_rfl) (by kernel_rfl) (by kernel_rfl) (fun _ _ _ h => h) (Or.inl ⟨by rfl, ?_⟩) (by assumption) ?_
  rotate_left
  · (intro w hSw; (try dsimp only at hSw); go_simp; try with_reducible rfl)
  simp only [List.getElem_toArray, List.getElem_cons_succ, List.getElem_cons_zero, Act.put, List.setIfInBounds_toArray, List.set_cons_zero, List.set_cons_succ]
  refine wpAnyH_norm (l2 := #[true, true, true, true, false, false, false, false, false, false, false, false, false, false, false, false, false]) (f2 := 13) (by kernel_rfl) (by kernel_rfl) ?_
  refine wpAnyH_take (i := 5) (oi := _) (v := ?_) rfl (by kernel_rfl) (by kernel_rfl) (by kernel_rfl) (fun _ _ _ h => h) (Or.inl ⟨by rfl, ?_⟩) (by assumption) ?_
  rotate_left
  · (intro w hSw; (try dsimp only at hSw); go_simp; try with_reducible rfl)
  simp only [List.getElem_toArray, List.getElem_cons_succ, List.getElem_cons_zero, Act.put, List.setIfInBounds_toArray, List.set_cons_zero, List.set_cons_succ]
  refine wpAnyH_norm (l2 := #[true, true, true, true, false, true, false, false, false, false, false, false, false, false, false, false, false]) (f2 := 12) (by kernel_rfl) (by kernel_rfl) ?_
  refine wpAnyH_take (i := 6) (oi := _) (v := ?_) rfl (by kernel_rfl) (by kernel_rfl) (by kernel_rfl) (fun _ _ _ h => h) (Or.inl ⟨by rfl, ?_⟩) (by assumption) ?_
  rotate_left
  · (intro w hSw; (try dsimp only at hSw); go_simp; try with_reducible rfl)
  simp only [List.getElem_toArray, List.getElem_cons_succ, List.getElem_cons_zero, Act.put, List.setIfInBounds_toArray, List.set_cons_zero, List.set_cons_succ]
  refine wpAnyH_norm (l2 := #[true, true, true, true, false, true, true, false, false, false, false, false, false, false, false, false, false]) (f2 := 11) (by kernel_rfl) (by kernel_rfl) ?_
  refine wpAnyH_take (i := 7) (oi := _) (v := ?_) rfl (by kernel_rfl) (by kernel_rfl) (by kernel_rfl) (fun _ _ _ h => h) (Or.inl ⟨by rfl, ?_⟩) (by assumption) ?_
  rotate_left
  · (intro w hSw; (try dsimp only at hSw); go_simp; try with_reducible rfl)
  simp only [List.getElem_toArray, List.getElem_cons_succ, List.getElem_cons_zero, Act.put, List.setIfInBounds_toArray, List.set_cons_zero, List.set_cons_succ]
  refine wpAnyH_norm (l2 := #[true, true, true, true, false, true, true, true, false, false, false, false, false, false, false, false, false]) (f2 := 10) (by kernel_rfl) (by kernel_rfl) ?_
  refine wpAnyH_take (i := 9) (oi := _) (v := ?_) rfl (by kernel_rfl) (by kernel_rfl) (by kernel_rfl) (fun _ _ _ h => h) (Or.inl ⟨by rfl, ?_⟩) (by assumption) ?_
  rotate_left
  · (intro w hSw; (try dsimp only at hSw); go_simp; try with_reducible rfl)
  simp only [List.getElem_toArray, List.getElem_cons_succ, List.getElem_cons_zero, Act.put, List.setIfInBounds_toArray, List.set_cons_zero, List.set_cons_succ]
  refine share Unit 4 #[true, true, true, true, true, true, true, true, true, true, true, true, true, false, false, false, false] (fun fr _ => (((((fr).put (some 17) (.slice a V.length cap)).put (some 21) (.int .i64 nx)).put (some 23) (Value.slice (some ⟨w1.heap.size, 0, none⟩) k k)).put (some 24) (.agg #[.int .i64 nx, Value.slice (some ⟨w1.heap.size, 0, none⟩) k k])).put (some 25) (.slice (some ⟨w1.heap.size + 1, 0, none⟩) 1 1)) (fun _ u => u = ((w1.alloc (Obj.cells Z 5)).alloc (Obj.cells #[Value.int .i64 nx, Value.slice (some ⟨w1.heap.size, 0, none⟩) k k] 158)).drew) ?_ (fun KEY_4_8_10_12 => ?_)
  · intro x u hx
    subst hx
    have hHeld : True := trivial
    simp only [List.getElem_toArray, List.getElem_cons_succ, List.getElem_cons_zero, Act.put, List.setIfInBounds_toArray, List.set_cons_zero, List.set_cons_succ]
    refine wpAnyH_norm (l2 := #[true, true, true, true, true, true, true, true, true, true, true, true, true, false, false, false, false]) (f2 := 4) (by kernel_rfl) (by kernel_rfl) ?_
    refine wpAnyH_ready (rs := [13]) (by kernel_rfl) (by simp) ?_
    refine AllReadyH.cons rfl (fun K hK => ?_) AllReadyH.nil
    · rw [if_pos (by kernel_rfl)]
      refine wp_append_known (.tmp 17) (.tmp 25) 125 rfl _ _ rfl rfl _ w4 HRUN.out ?_
      refine hK.out _ _ trivial (fun hHeld => ?_)
      clear hK K
      simp only [List.getElem_toArray, List.getElem_cons_succ, List.getElem_cons_zero, Act.put, List.setIfInBounds_toArray, List.set_cons_zero, List.set_cons_succ]
      refine wpAnyH_norm (l2 := #[true, true, true, true, true, true, true, true, true, true, true, true, true, true, false, false, false]) (f2 := 3) (by kernel_rfl) (by kernel_rfl) ?_
      refine wpAnyH_take (i := 14) (oi := _) (v := ?_) rfl (by kernel_rfl) (by kernel_rfl) (by kernel_rfl) (fun _ _ _ h => h) (Or.inl ⟨by rfl, ?_⟩) (by assumption) ?_
      rotate_left
      · (intro w hSw; (try dsimp only at hSw); go_simp; try with_reducible rfl)
      simp only [List.getElem_toArray, List.getElem_cons_succ, List.getElem_cons_zero, Act.put, List.setIfInBounds_toArray, List.set_cons_zero, List.set_cons_succ]
      refine wpAnyH_norm (l2 := #[true, true, true, true, true, true, true, true, true, true, true, true, true, true, true, false, false]) (f2 := 2) (by kernel_rfl) (by kernel_rfl) ?_
      refine wpAnyH_take (i := 15) (oi := _) (v := ?_) rfl (by kernel_rfl) (by kernel_rfl) (by kernel_rfl) (fun _ _ _ h => h) (Or.inl ⟨by rfl, ?_⟩) (by assumption) ?_
      rotate_left
      · (intro w hSw; (try dsimp only at hSw); go_simp; try with_reducible rfl)
      simp only [List.getElem_toArray, List.getElem_cons_succ, List.getElem_cons_zero, Act.put, List.setIfInBounds_toArray, List.set_cons_zero, List.set_cons_succ]
      refine wpAnyH_norm (l2 := #[true, true, true, true, true, true, true, true, true, true, true, true, true, true, true, true, false]) (f2 := 1) (by kernel_rfl) (by kernel_rfl) ?_
      refine wpAnyH_ready (rs := [16]) (by kernel_rfl) (by simp) ?_
      refine AllReadyH.cons rfl (fun K hK => ?_) AllReadyH.nil
      go_simp
      refine hK.out _ _ trivial (fun hHeld => ?_)
      clear hK K
      simp only [List.getElem_toArray, List.getElem_cons_succ, List.getElem_cons_zero, Act.put, List.setIfInBounds_toArray, List.set_cons_zero, List.set_cons_succ]
      refine wpAnyH_norm (l2 := #[true, true, true, true, true, true, true, true, true, true, true, true, true, true, true, true, true]) (f2 := 0) (by kernel_rfl) (by kernel_rfl) ?_
      refine wpAnyH_done (by kernel_rfl) ?_ _
      go_wp2
      refine bodyPost_ret (v := .tuple #[.int .i64 nx, .int .i64 0]) (by simp [results, Tryz.results37, go_sem, hwr3]) rfl ⟨_, _, _, _, rfl, H1.out.create HBU.out HUS.out HUZ.out HG4.out HO4.out hk HNX.out HRO.out, fun j hj => ?_, ?_⟩
      · have hsz : w1.heap.size = w.heap.size := by rw [← hw1]; rfl
        by_cases e1 : j = w1.heap.size
        · right
          omega
        · simp only [if_neg e1] at hj
          by_cases e2 : w1.heap.size ≤ j ∧ j < w4.heap.size
          · right
            have e3 := e2.1
            omega
          · simp only [if_neg e2] at hj
            exact .inl hj
      · have b1 : But (fun j => col j ≠ 0) w w1 := by rw [← hw1]; exact But.of (below_drewN (Below.refl _ _) d)
        have b2 := (b1.call HBU.out).trans (HG4.out.but.mono (fun j hj => by rw [H1.out.k2 j hj]; decide))
        have hk1 : col r ≠ 0 := by rw [H1.out.k1]; decide
        exact (b2.setCell (p := ⟨r, 2, none⟩) hk1 _).setCell (p := ⟨r, 3, none⟩) hk1 _
  simp only [List.getElem_toArray, List.getElem_cons_succ, List.getElem_cons_zero, Act.put, List.setIfInBounds_toArray, List.set_cons_zero, List.set_cons_succ] at KEY_4_8_10_12
  refine share Unit 5 #[true, true, true, true, false, true, true, true, true, true, true, true, true, false, false, false, false] (fun fr _ => ((((fr).put (some 21) (.int .i64 nx)).put (some 23) (Value.slice (some ⟨w1.heap.size, 0, none⟩) k k)).put (some 24) (.agg #[.int .i64 nx, Value.slice (some ⟨w1.heap.size, 0, none⟩) k k])).put (some 25) (.slice (some ⟨w1.heap.size + 1, 0, none⟩) 1 1)) (fun _ u => u = ((w1.alloc (Obj.cells Z 5)).alloc (Obj.cells #[Value.int .i64 nx, Value.slice (some ⟨w1.heap.size, 0, none⟩) k k] 158)).drew) ?_ (fun KEY_8_10_12 => ?_)
  · intro x u hx
    subst hx
    have hHeld : True := trivial
    simp only [List.getElem_toArray, List.getElem_cons_succ, List.getElem_cons_zero, Act.put, List.setIfInBounds_toArray, List.set_cons_zero, List.set_cons_succ]
    refine wpAnyH_norm (l2 := #[true, true, true, true, false, true, true, true, true, true, true, true, true, false, false, false, false]) (f2 := 5) (by kernel_rfl) (by kernel_rfl) ?_
    refine wpAnyH_ready (rs := [4]) (by kernel_rfl) (by simp) ?_
    refine AllReadyH.cons rfl (fun K hK => ?_) AllReadyH.nil
    · go_simp
      refine hK.out _ _ trivial (fun hHeld => ?_)
      clear hK K
      simp only [List.getElem_toArray, List.getElem_cons_succ, List.getElem_cons_zero, Act.put, List.setIfInBounds_toArray, List.set_cons_zero, List.set_cons_succ]
      refine wpAnyH_norm (l2 := #[true, true, true, true, true, true, true, true, true, true, true, true, true, false, false, false, false]) (f2 := 4) (by kernel_rfl) (by kernel_rfl) ?_
      exact KEY_4_8_10_12.out () _ rfl
  simp only [List.getElem_toArray, List.getElem_cons_succ, List.getElem_cons_zero, Act.put, List.setIfInBounds_toArray, List.set_cons_zero, List.set_cons_succ] at KEY_8_10_12
  refine share Unit 5 #[true, true, true, true, true, true, true, true, true, true, true, true, false, false, false, false, false] (fun fr _ => ((((fr).put (some 17) (.slice a V.length cap)).put (some 21) (.int .i64 nx)).put (some 23) (Value.slice (some ⟨w1.heap.size, 0, none⟩) k k)).put (some 24) (.agg #[.int .i64 nx, Value.slice (some ⟨w1.heap.size, 0, none⟩) k k])) (fun _ u => u = (w1.alloc (Obj.cells Z 5)).drew) ?_ (fun KEY_4_8_10 => ?_)
  · intro x u hx
    subst hx
    have hHeld : True := trivial
    simp only [List.getElem_toArray, List.getElem_cons_succ, List.getElem_cons_zero, Act.put, List.setIfInBounds_toArray, List.set_cons_zero, List.set_cons_succ]
    refine wpAnyH_norm (l2 := #[true, true, true, true, true, true, true, true, true, true, true, true, false, false, false, false, false]) (f2 := 5) (by kernel_rfl) (by kernel_rfl) ?_
    refine wpAnyH_ready (rs := [12]) (by kernel_rfl) (by simp) ?_
    refine AllReadyH.cons rfl (fun K hK => ?_) AllReadyH.nil
    · go_simp
      refine hK.out _ _ trivial (fun hHeld => ?_)
      clear hK K
      simp only [List.getElem_toArray, List.getElem_cons_succ, List.getElem_cons_zero, Act.put, List.setIfInBounds_toArray, List.set_cons_zero, List.set_cons_succ]
      refine wpAnyH_norm (l2 := #[true, true, true, true, true, true, true, true, true, true, true, true, true, false, false, false, false]) (f2 := 4) (by kernel_rfl) (by kernel_rfl) ?_
      exact KEY_4_8_10_12.out () _ rfl
  simp only [List.getElem_toArray, List.getElem_cons_succ, List.getElem_cons_zero, Act.put, List.setIfInBounds_toArray, List.set_cons_zero, List.set_cons_succ] at KEY_4_8_10
  refine share Unit 6 #[true, true, true, true, false, true, true, true, true, true, true, true, false, false, false, false, false] (fun fr _ => (((fr).put (some 21) (.int .i64 nx)).put (some 23) (Value.slice (some ⟨w1.heap.size, 0, none⟩) k k)).put (some 24) (.agg #[.int .i64 nx, Value.slice (some ⟨w1.heap.size, 0, none⟩) k k])) (fun _ u => u = (w1.alloc (Obj.cells Z 5)).drew) ?_ (fun KEY_8_10 => ?_)
  · intro x u hx
    subst hx
    have hHeld : True := trivial
    simp only [List.getElem_toArray, List.getElem_cons_succ, List.getElem_cons_zero, Act.put, List.setIfInBounds_toArray, List.set_cons_zero, List.set_cons_succ]
    refine wpAnyH_norm (l2 := #[true, true, true, true, false, true, true, true, true, true, true, true, false, false, false, false, false]) (f2 := 6) (by kernel_rfl) (by kernel_rfl) ?_
    refine wpAnyH_ready (rs := [4, 12]) (by kernel_rfl) (by simp) ?_
    refine AllReadyH.cons rfl (fun K hK => ?_) (AllReadyH.cons rfl (fun K hK => ?_) AllReadyH.nil)
    · go_simp
      refine hK.out _ _ trivial (fun hHeld => ?_)
      clear hK K
      simp only [List.getElem_toArray, List.getElem_cons_succ, List.getElem_cons_zero, Act.put, List.setIfInBounds_toArray, List.set_cons_zero, List.set_cons_succ]
      refine wpAnyH_norm (l2 := #[true, true, true, true, true, true, true, true, true, true, true, true, false, false, false, false, false]) (f2 := 5) (by kernel_rfl) (by kernel_rfl) ?_
      exact KEY_4_8_10.out () _ rfl
    · go_simp
      refine hK.out _ _ trivial (fun hHeld => ?_)
      clear hK K
      simp only [List.getElem_toArray, List.getElem_cons_succ, List.getElem_cons_zero, Act.put, List.setIfInBounds_toArray, List.set_cons_zero, List.set_cons_succ]
      refine wpAnyH_norm (l2 := #[true, true, true, true, false, true, true, true, true, true, true, true, true, false, false, false, false]) (f2 := 5) (by kernel_rfl) (by kernel_rfl) ?_
      exact KEY_8_10_12.out () _ rfl
  simp only [List.getElem_toArray, List.getElem_cons_succ, List.getElem_cons_zero, Act.put, List.setIfInBounds_toArray, List.set_cons_zero, List.set_cons_succ] at KEY_8_10
  refine share Unit 7 #[true, true, true, true, true, true, true, true, false, true, true, false, false, false, false, false, false] (fun fr _ => ((fr).put (some 17) (.slice a V.length cap)).put (some 23) (Value.slice (some ⟨w1.heap.size, 0, none⟩) k k)) (fun _ u => u = (w1.alloc (Obj.cells Z 5)).drew) ?_ (fun KEY_4_10 => ?_)
  · intro x u hx
    subst hx
    have hHeld : True := trivial
    simp only [List.getElem_toArray, List.getElem_cons_succ, List.getElem_cons_zero, Act.put, List.setIfInBounds_toArray, List.set_cons_zero, List.set_cons_succ]
    refine wpAnyH_norm (l2 := #[true, true, true, true, true, true, true, true, false, true, true, false, false, false, false, false, false]) (f2 := 7) (by kernel_rfl) (by kernel_rfl) ?_
    refine wpAnyH_ready (rs := [8]) (by kernel_rfl) (by simp) ?_
    refine AllReadyH.cons rfl (fun K hK => ?_) AllReadyH.nil
    · go_simp
      refine hK.out _ _ trivial (fun hHeld => ?_)
      clear hK K
      simp only [List.getElem_toArray, List.getElem_cons_succ, List.getElem_cons_zero, Act.put, List.setIfInBounds_toArray, List.set_cons_zero, List.set_cons_succ]
      refine wpAnyH_norm (l2 := #[true, true, true, true, true, true, true, true, true, true, true, false, false, false, false, false, false]) (f2 := 6) (by kernel_rfl) (by kernel_rfl) ?_
      refine wpAnyH_take (i := 11) (oi := _) (v := ?_) rfl (by kernel_rfl) (by kernel_rfl) (by kernel_rfl) (fun _ _ _ h => h) (Or.inl ⟨by rfl, ?_⟩) (by assumption) ?_
      rotate_left
      · (intro w hSw; (try dsimp only at hSw); go_simp; try with_reducible rfl)
      simp only [List.getElem_toArray, List.getElem_cons_succ, List.getElem_cons_zero, Act.put, List.setIfInBounds_toArray, List.set_cons_zero, List.set_cons_succ]
      refine wpAnyH_norm (l2 := #[true, true, true, true, true, true, true, true, true, true, true, true, false, false, false, false, false]) (f2 := 5) (by kernel_rfl) (by kernel_rfl) ?_
      exact KEY_4_8_10.out () _ rfl
  simp only [List.getElem_toArray, List.getElem_cons_succ, List.getElem_cons_zero, Act.put, List.setIfInBounds_toArray, List.set_cons_zero, List.set_cons_succ] at KEY_4_10
  refine share Unit 7 #[true, true, true, true, true, true, true, true, true, true, false, false, false, false, false, false, false] (fun fr _ => ((fr).put (some 17) (.slice a V.length cap)).put (some 21) (.int .i64 nx)) (fun _ u => u = w1.drew) ?_ (fun KEY_4_8 => ?_)
  · intro x u hx
    subst hx
    have hHeld : True := trivial
    simp only [List.getElem_toArray, List.getElem_cons_succ, List.getElem_cons_zero, Act.put, List.setIfInBounds_toArray, List.set_cons_zero, List.set_cons_succ]
    refine wpAnyH_norm (l2 := #[true, true, true, true, true, true, true, true, true, true, false, false, false, false, false, false, false]) (f2 := 7) (by kernel_rfl) (by kernel_rfl) ?_
    refine wpAnyH_ready (rs := [10]) (by kernel_rfl) (by simp) ?_
    refine AllReadyH.cons rfl (fun K hK => ?_) AllReadyH.nil
    · go_simp
      refine hK.out _ _ trivial (fun hHeld => ?_)
      clear hK K
      simp only [List.getElem_toArray, List.getElem_cons_succ, List.getElem_cons_zero, Act.put, List.setIfInBounds_toArray, List.set_cons_zero, List.set_cons_succ]
      refine wpAnyH_norm (l2 := #[true, true, true, true, true, true, true, true, true, true, true, false, false, false, false, false, false]) (f2 := 6) (by kernel_rfl) (by kernel_rfl) ?_
      refine wpAnyH_take (i := 11) (oi := _) (v := ?_) rfl (by kernel_rfl) (by kernel_rfl) (by kernel_rfl) (fun _ _ _ h => h) (Or.inl ⟨by rfl, ?_⟩) (by assumption) ?_
      rotate_left
      · (intro w hSw; (try dsimp only at hSw); go_simp; try with_reducible rfl)
      simp only [List.getElem_toArray, List.getElem_cons_succ, List.getElem_cons_zero, Act.put, List.setIfInBounds_toArray, List.set_cons_zero, List.set_cons_succ]
      refine wpAnyH_norm (l2 := #[true, true, true, true, true, true, true, true, true, true, true, true, false, false, false, false, false]) (f2 := 5) (by kernel_rfl) (by kernel_rfl) ?_
      exact KEY_4_8_10.out () _ rfl
  simp only [List.getElem_toArray, List.getElem_cons_succ, List.getElem_cons_zero, Act.put, List.setIfInBounds_toArray, List.set_cons_zero, List.set_cons_succ] at KEY_4_8
  refine share Unit 8 #[true, true, true, true, false, true, true, true, false, true, true, false, false, false, false, false, false] (fun fr _ => (fr).put (some 23) (Value.slice (some ⟨w1.heap.size, 0, none⟩) k k)) (fun _ u => u = (w1.alloc (Obj.cells Z 5)).drew) ?_ (fun KEY_10 => ?_)
  · intro x u hx
    subst hx
    have hHeld : True := trivial
    simp only [List.getElem_toArray, List.getElem_cons_succ, List.getElem_cons_zero, Act.put, List.setIfInBounds_toArray, List.set_cons_zero, List.set_cons_succ]
    refine wpAnyH_norm (l2 := #[true, true, true, true, false, true, true, true, false, true, true, false, false, false, false, false, false]) (f2 := 8) (by kernel_rfl) (by kernel_rfl) ?_
    refine wpAnyH_ready (rs := [4, 8]) (by kernel_rfl) (by simp) ?_
    refine AllReadyH.cons rfl (fun K hK => ?_) (AllReadyH.cons rfl (fun K hK => ?_) AllReadyH.nil)
    · go_simp
      refine hK.out _ _ trivial (fun hHeld => ?_)
      clear hK K
      simp only [List.getElem_toArray, List.getElem_cons_succ, List.getElem_cons_zero, Act.put, List.setIfInBounds_toArray, List.set_cons_zero, List.set_cons_succ]
      refine wpAnyH_norm (l2 := #[true, true, true, true, true, true, true, true, false, true, true, false, false, false, false, false, false]) (f2 := 7) (by kernel_rfl) (by kernel_rfl) ?_
      exact KEY_4_10.out () _ rfl
    · go_simp
      refine hK.out _ _ trivial (fun hHeld => ?_)
      clear hK K
      simp only [List.getElem_toArray, List.getElem_cons_succ, List.getElem_cons_zero, Act.put, List.setIfInBounds_toArray, List.set_cons_zero, List.set_cons_succ]
      refine wpAnyH_norm (l2 := #[true, true, true, true, false, true, true, true, true, true, true, false, false, false, false, false, false]) (f2 := 7) (by kernel_rfl) (by kernel_rfl) ?_
      refine wpAnyH_take (i := 11) (oi := _) (v := ?_) rfl (by kernel_rfl) (by kernel_rfl) (by kernel_rfl) (fun _ _ _ h => h) (Or.inl ⟨by rfl, ?_⟩) (by assumption) ?_
      rotate_left
      · (intro w hSw; (try dsimp only at hSw); go_simp; try with_reducible rfl)
      simp only [List.getElem_toArray, List.getElem_cons_succ, List.getElem_cons_zero, Act.put, List.setIfInBounds_toArray, List.set_cons_zero, List.set_cons_succ]
      refine wpAnyH_norm (l2 := #[true, true, true, true, false, true, true, true, true, true, true, true, false, false, false, false, false]) (f2 := 6) (by kernel_rfl) (by kernel_rfl) ?_
      exact KEY_8_10.out () _ rfl
  simp only [List.getElem_toArray, List.getElem_cons_succ, List.getElem_cons_zero, Act.put, List.setIfInBounds_toArray, List.set_cons_zero, List.set_cons_succ] at KEY_10
  refine share Unit 8 #[true, true, true, true, false, true, true, true, true, true, false, false, false, false, false, false, false] (fun fr _ => (fr).put (some 21) (.int .i64 nx)) (fun _ u => u = w1.drew) ?_ (fun KEY_8 => ?_)
  · intro x u hx
    subst hx
    have hHeld : True := trivial
    simp only [List.getElem_toArray, List.getElem_cons_succ, List.getElem_cons_zero, Act.put, List.setIfInBounds_toArray, List.set_cons_zero, List.set_cons_succ]
    refine wpAnyH_norm (l2 := #[true, true, true, true, false, true, true, true, true, true, false, false, false, false, false, false, false]) (f2 := 8) (by kernel_rfl) (by kernel_rfl) ?_
    refine wpAnyH_ready (rs := [4, 10]) (by kernel_rfl) (by simp) ?_
    refine AllReadyH.cons rfl (fun K hK => ?_) (AllReadyH.cons rfl (fun K hK => ?_) AllReadyH.nil)
    · go_simp
      refine hK.out _ _ trivial (fun hHeld => ?_)
      clear hK K
      simp only [List.getElem_toArray, List.getElem_cons_succ, List.getElem_cons_zero, Act.put, List.setIfInBounds_toArray, List.set_cons_zero, List.set_cons_succ]
      refine wpAnyH_norm (l2 := #[true, true, true, true, true, true, true, true, true, true, false, false, false, false, false, false, false]) (f2 := 7) (by kernel_rfl) (by kernel_rfl) ?_
      exact KEY_4_8.out () _ rfl
    · go_simp
      refine hK.out _ _ trivial (fun hHeld => ?_)
      clear hK K
      simp only [List.getElem_toArray, List.getElem_cons_succ, List.getElem_cons_zero, Act.put, List.setIfInBounds_toArray, List.set_cons_zero, List.set_cons_succ]
      refine wpAnyH_norm (l2 := #[true, true, true, true, false, true, true, true, true, true, true, false, false, false, false, false, false]) (f2 := 7) (by kernel_rfl) (by kernel_rfl) ?_
      refine wpAnyH_take (i := 11) (oi := _) (v := ?_) rfl (by kernel_rfl) (by kernel_rfl) (by kernel_rfl) (fun _ _ _ h => h) (Or.inl ⟨by rfl, ?_⟩) (by assumption) ?_
      rotate_left
      · (intro w hSw; (try dsimp only at hSw); go_simp; try with_reducible rfl)
      simp only [List.getElem_toArray, List.getElem_cons_succ, List.getElem_cons_zero, Act.put, List.setIfInBounds_toArray, List.set_cons_zero, List.set_cons_succ]
      refine wpAnyH_norm (l2 := #[true, true, true, true, false, true, true, true, true, true, true, true, false, false, false, false, false]) (f2 := 6) (by kernel_rfl) (by kernel_rfl) ?_
      exact KEY_8_10.out () _ rfl
  simp only [List.getElem_toArray, List.getElem_cons_succ, List.getElem_cons_zero, Act.put, List.setIfInBounds_toArray, List.set_cons_zero, List.set_cons_succ] at KEY_8
  refine share Unit 8 #[true, true, true, true, true, true, true, true, false, true, false, false, false, false, false, false, false] (fun fr _ => (fr).put (some 17) (.slice a V.length cap)) (fun _ u => u = w1.drew) ?_ (fun KEY_4 => ?_)
  · intro x u hx
    subst hx
    have hHeld : True := trivial
    simp only [List.getElem_toArray, List.getElem_cons_succ, List.getElem_cons_zero, Act.put, List.setIfInBounds_toArray, List.set_cons_zero, List.set_cons_succ]
    refine wpAnyH_norm (l2 := #[true, true, true, true, true, true, true, true, false, true, false, false, false, false, false, false, false]) (f2 := 8) (by kernel_rfl) (by kernel_rfl) ?_
    refine wpAnyH_ready (rs := [8, 10]) (by kernel_rfl) (by simp) ?_
    refine AllReadyH.cons rfl (fun K hK => ?_) (AllReadyH.cons rfl (fun K hK => ?_) AllReadyH.nil)
    · go_simp
      refine hK.out _ _ trivial (fun hHeld => ?_)
      clear hK K
      simp only [List.getElem_toArray, List.getElem_cons_succ, List.getElem_cons_zero, Act.put, List.setIfInBounds_toArray, List.set_cons_zero, List.set_cons_succ]
      refine wpAnyH_norm (l2 := #[true, true, true, true, true, true, true, true, true, true, false, false, false, false, false, false, false]) (f2 := 7) (by kernel_rfl) (by kernel_rfl) ?_
      exact KEY_4_8.out () _ rfl
    · go_simp
      refine hK.out _ _ trivial (fun hHeld => ?_)
      clear hK K
      simp only [List.getElem_toArray, List.getElem_cons_succ, List.getElem_cons_zero, Act.put, List.setIfInBounds_toArray, List.set_cons_zero, List.set_cons_succ]
      refine wpAnyH_norm (l2 := #[true, true, true, true, true, true, true, true, false, true, true, false, false, false, false, false, false]) (f2 := 7) (by kernel_rfl) (by kernel_rfl) ?_
      exact KEY_4_10.out () _ rfl
  simp only [List.getElem_toArray, List.getElem_cons_succ, List.getElem_cons_zero, Act.put, List.setIfInBounds_toArray, List.set_cons_zero, List.set_cons_succ] at KEY_4
  refine wpAnyH_norm (l2 := #[true, true, true, true, false, true, true, true, false, true, false, false, false, false, false, false, false]) (f2 := 9) (by kernel_rfl) (by kernel_rfl) ?_
  refine wpAnyH_ready (rs := [4, 8, 10]) (by kernel_rfl) (by simp) ?_
  refine AllReadyH.cons rfl (fun K hK => ?_) (AllReadyH.cons rfl (fun K hK => ?_) (AllReadyH.cons rfl (fun K hK => ?_) AllReadyH.nil))
  · go_simp
    refine hK.out _ _ trivial (fun hHeld => ?_)
    clear hK K
    simp only [List.getElem_toArray, List.getElem_cons_succ, List.getElem_cons_zero, Act.put, List.setIfInBounds_toArray, List.set_cons_zero, List.set_cons_succ]
    refine wpAnyH_norm (l2 := #[true, true, true, true, true, true, true, true, false, true, false, false, false, false, false, false, false]) (f2 := 8) (by kernel_rfl) (by kernel_rfl) ?_
    exact KEY_4.out () _ rfl
  · go_simp
    refine hK.out _ _ trivial (fun hHeld => ?_)
    clear hK K
    simp only [List.getElem_toArray, List.getElem_cons_succ, List.getElem_cons_zero, Act.put, List.setIfInBounds_toArray, List.set_cons_zero, List.set_cons_succ]
    refine wpAnyH_norm (l2 := #[true, true, true, true, false, true, true, true, true, true, false, false, false, false, false, false, false]) (f2 := 8) (by kernel_rfl) (by kernel_rfl) ?_
    exact KEY_8.out () _ rfl
  · go_simp
    refine hK.out _ _ trivial (fun hHeld => ?_)
    clear hK K
    simp only [List.getElem_toArray, List.getElem_cons_succ, List.getElem_cons_zero, Act.put, List.setIfInBounds_toArray, List.set_cons_zero, List.set_cons_succ]
    refine wpAnyH_norm (l2 := #[true, true, true, true, false, true, true, true, false, true, true, false, false, false, false, false, false]) (f2 := 8) (by kernel_rfl) (by kernel_rfl) ?_
    exact KEY_10.out () _ rfl
end Go.Proofs.YtnjadfgfpebkdaaGreat.S
