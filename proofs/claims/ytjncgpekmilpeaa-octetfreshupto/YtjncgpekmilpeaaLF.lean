import Derived.Test.YtjncgpekmilpeaaH3
namespace Go.Proofs.Ytjncgpekmilpeaa
open Go.RowKit
set_option linter.unusedVariables false
set_option linter.unusedSimpArgs false

/-- The nine lists of a turn. -/
def nineL (B : List Nat) (v8 v16 v32 v o hi lo : Nat) : List (List Nat) :=
  [B ++ leL v8 1, B ++ leL v16 2, B ++ leL v32 4, B ++ leL v 8, B ++ leL lo 8 ++ leL hi 8, B ++ leL o 8 ++ leL lo 8 ++ leL hi 8, B ++ B, B, B]
/-- Behind the statement that makes the nine. -/
def NineRel (zA i : Nat) (vals : List Value) (rs : List R4) (B : List Nat) (v8 v16 v32 v o hi lo : Nat) (w8 : World) (al : Value) (w' : World) : Prop :=
  ∃ nine : List R4, nine.map (fun r => r.2.2.2) = nineL B v8 v16 v32 v o hi lo ∧ w'.ownsRow zA 22 1 al (9 * i + 9) (vals ++ nine.map val4) ∧ Chain w' zA (rs ++ nine) ∧ Below zA w8 w'
theorem two_cells {u : World} {g gK n cl : Nat} {B : List Nat} (h : u.cell? ⟨g, 0, none⟩ = some (.slice (some ⟨gK, 0, none⟩) n cl) ∧ u.cell? ⟨g, 1, none⟩ = some (.slice (some ⟨gK, 0, none⟩) n cl)) :
    ∀ j (hj : j < [(some (⟨gK, 0, none⟩ : Addr), n, cl, B), (some ⟨gK, 0, none⟩, n, cl, B)].length), u.cell? ⟨g, j, none⟩ = some (val4 [(some (⟨gK, 0, none⟩ : Addr), n, cl, B), (some ⟨gK, 0, none⟩, n, cl, B)][j]) := by
  intro j hj
  have : j = 0 ∨ j = 1 := by simp at hj; omega
  rcases this with rfl | rfl
  · exact h.1
  · exact h.2
theorem one_cell {u : World} {g gK n cl : Nat} {B : List Nat} (h : u.cell? ⟨g, 0, none⟩ = some (.slice (some ⟨gK, 0, none⟩) n cl)) :
    ∀ j (hj : j < [(some (⟨gK, 0, none⟩ : Addr), n, cl, B)].length), u.cell? ⟨g, j, none⟩ = some (val4 [(some (⟨gK, 0, none⟩ : Addr), n, cl, B)][j]) := by
  intro j hj
  have : j = 0 := by simp at hj; omega
  subst this
  exact h
theorem nine_cells (U : World) (rs : List R4) {cells : Array Value} (hc : (rs.map val4).toArray = cells) : ∀ j u, (rs.map val4)[j]? = some u → (U.alloc (.cells cells 22)).cell? ⟨U.heap.size, j, none⟩ = some u := by
  intro j u hu
  subst hc
  have hh := heap_alloc_new U (.cells (rs.map val4).toArray 22)
  have hh2 : ((rs.map val4).toArray)[j]? = some u := by rw [List.getElem?_toArray]; exact hu
  simp only [World.cell?, hh]
  exact hh2
theorem but_of_below {z : Nat} {w w' : World} (h : Below z w w') : But (fun k => z ≤ k) w w' := ⟨h.os, h.tape, h.output, h.size, fun k _ hn => h.block k (by omega)⟩
theorem nine_perm (rs : List R4) (x r p1 p2 p4 p8 pw pj pk : R4) : (rs ++ [x] ++ [r] ++ ([p1, p2, p4, p8, pw, pj, pk])).Perm (rs ++ [p1, p2, p4, p8, pw, x, pj, pk, r]) := by
  rw [List.append_assoc, List.append_assoc]
  refine List.Perm.append_left rs ?_
  show ([x, r, p1, p2, p4, p8, pw, pj, pk] : List R4).Perm _
  have e1 : ([x, r, p1, p2, p4, p8, pw, pj, pk] : List R4).Perm ([p1, p2, p4, p8, pw] ++ [x, r, pj, pk]) := (List.perm_append_comm (l₁ := [x, r]) (l₂ := [p1, p2, p4, p8, pw])).append_right [pj, pk]
  refine e1.trans (List.Perm.append_left [p1, p2, p4, p8, pw] (List.Perm.cons x ?_))
  exact (List.perm_append_comm (l₁ := [r]) (l₂ := [pj, pk]))
theorem Lent.but' {S : Nat → Prop} {w w' : World} {base g n cap : Nat} {L : List Nat} (hb : But S w w') (h : Lent w base g n cap L) (hn : ¬ S g) : Lent w' base g n cap L := by
  refine ⟨⟨⟨h.own.row.1, ?_⟩, h.own.small⟩, h.len⟩
  rcases h.own.row.2 with h0 | ⟨g', c, cur, hv, hz, hh, r⟩
  · exact .inl h0
  · refine .inr ⟨g', c, cur, hv, hz, ?_, r⟩
    simp only [Value.slice.injEq, Option.some.injEq, Addr.mk.injEq] at hv
    obtain ⟨⟨rfl, _⟩, _⟩ := hv
    rw [hb.block g (Array.getElem?_eq_some_iff.1 hh).1 hn]
    exact hh
theorem lists18 {rs : List R4} {B : List Nat} {v8 v16 v32 v o hi lo : Nat} (h : rs.map (fun r => r.2.2.2) = (List.replicate 2 (nineL B v8 v16 v32 v o hi lo)).flatten) : rs.length = 18 := by
  have := congrArg List.length h
  simpa [nineL] using this
theorem lists_same {Lf : Nat → List Nat} {B : List Nat} {v8 v16 v32 v o hi lo : Nat} (h : (List.range 18).map Lf = (List.replicate 2 (nineL B v8 v16 v32 v o hi lo)).flatten) : (∀ i, i < 9 → Lf i = Lf (i + 9)) ∧ Lf 7 = B ∧ Lf 8 = B ∧ ∀ i, i < 18 → (Lf i).length ≤ 2 * B.length + 24 := by
  have e : (List.range 18).map Lf = [Lf 0, Lf 1, Lf 2, Lf 3, Lf 4, Lf 5, Lf 6, Lf 7, Lf 8, Lf 9, Lf 10, Lf 11, Lf 12, Lf 13, Lf 14, Lf 15, Lf 16, Lf 17] := rfl
  rw [e] at h
  simp only [nineL, List.replicate, List.flatten_cons, List.flatten_nil, List.append_nil, List.cons_append, List.nil_append, List.cons.injEq, and_true] at h
  obtain ⟨h0, h1, h2, h3, h4, h5, h6, h7, h8, h9, h10, h11, h12, h13, h14, h15, h16, h17⟩ := h
  refine ⟨fun i hi => ?_, h7, h8, fun i hi => ?_⟩
  · have : i = 0 ∨ i = 1 ∨ i = 2 ∨ i = 3 ∨ i = 4 ∨ i = 5 ∨ i = 6 ∨ i = 7 ∨ i = 8 := by omega
    rcases this with rfl | rfl | rfl | rfl | rfl | rfl | rfl | rfl | rfl <;> simp [*]
  · have : i = 0 ∨ i = 1 ∨ i = 2 ∨ i = 3 ∨ i = 4 ∨ i = 5 ∨ i = 6 ∨ i = 7 ∨ i = 8 ∨ i = 9 ∨ i = 10 ∨ i = 11 ∨ i = 12 ∨ i = 13 ∨ i = 14 ∨ i = 15 ∨ i = 16 ∨ i = 17 := by omega
    rcases this with rfl | rfl | rfl | rfl | rfl | rfl | rfl | rfl | rfl | rfl | rfl | rfl | rfl | rfl | rfl | rfl | rfl | rfl <;> simp [*, leL_length] <;> omega
/-- The list of lists, as it lies. -/
def AllAt (w : World) (gA : Nat) (A : Nat → Option Addr × Nat × Nat) : Prop := ∀ i, i < 18 → w.cell? ⟨gA, i, none⟩ = some (.slice (A i).1 (A i).2.1 (A i).2.2)
theorem AllAt.of {w : World} {z gA c : Nat} {A : Nat → Option Addr × Nat × Nat} (h : w.ownsRow z 22 1 (.slice (some ⟨gA, 0, none⟩) 18 c) 18 ((List.range 18).map (valA A))) : AllAt w gA A := by
  intro i hi
  have := h.cells (g := gA) rfl i (valA A i) (by simp [hi])
  rw [addr_add0] at this
  exact this
theorem AllAt.later {w w' : World} {gA : Nat} {A : Nat → Option Addr × Nat × Nat} (hb : Below w.heap.size w w') (h : AllAt w gA A) : AllAt w' gA A := fun i hi => cell_later hb (h i hi)
theorem Eight.congr {w : World} {z : Nat} {A : Nat → Option Addr × Nat × Nat} {Lf Lg : Nat → List Nat} (h : Eight w z A Lf) (he : ∀ i, i < 18 → Lf i = Lg i) : Eight w z A Lg := ⟨fun i hi => by rw [← he i hi]; exact h.own i hi, h.apart⟩
def mrk (A : Nat → Option Addr × Nat × Nat) (Lf : Nat → List Nat) (i q : Nat) : List Nat := if q < i then List.replicate (A q).2.1 (q + 1) else Lf q
def mrk2 (A : Nat → Option Addr × Nat × Nat) (Lf : Nat → List Nat) (i j q : Nat) : List Nat := if q = i then part (Lf i) (i + 1) j else mrk A Lf i q
def MarkRel (V : World) (zA gA cA : Nat) (A : Nat → Option Addr × Nat × Nat) (F : Nat → List Nat) (w' : World) : Prop := Eight w' zA A F ∧ w'.ownsRow zA 22 1 (.slice (some ⟨gA, 0, none⟩) 18 cA) 18 ((List.range 18).map (valA A)) ∧ Below zA V w'
theorem mark_in {V w' : World} {zA gA cA : Nat} {A : Nat → Option Addr × Nat × Nat} {Lf : Nat → List Nat} {i : Nat} (h : MarkRel V zA gA cA A (mrk A Lf i) w') : MarkRel V zA gA cA A (mrk2 A Lf i 0) w' :=
  ⟨h.1.congr (fun q _ => by
    unfold mrk2
    split
    · rename_i e; subst e; rw [part_zero]; unfold mrk; rw [if_neg (by omega)]
    · rfl), h.2.1, h.2.2⟩
theorem mark_out {V w' : World} {zA gA cA : Nat} {A : Nat → Option Addr × Nat × Nat} {Lf : Nat → List Nat} {i n : Nat} (h : MarkRel V zA gA cA A (mrk2 A Lf i n) w') (hn : n = (A i).2.1) (hl : (Lf i).length = n) : MarkRel V zA gA cA A (mrk A Lf (i + 1)) w' :=
  ⟨h.1.congr (fun q _ => by
    unfold mrk2 mrk
    by_cases e : q = i
    · subst e; rw [if_pos rfl, if_pos (by omega), part_all _ _ _ hl, hn]
    · rw [if_neg e]
      by_cases e2 : q < i
      · rw [if_pos e2, if_pos (by omega)]
      · rw [if_neg e2, if_neg (by omega)]), h.2.1, h.2.2⟩
theorem mark_step {V w' : World} {zA gA cA : Nat} {A : Nat → Option Addr × Nat × Nat} {Lf : Nat → List Nat} {i j : Nat} (h : MarkRel V zA gA cA A (mrk2 A Lf i j) w') (hi : i < 18) (hj : j < (A i).2.1) (hl : (Lf i).length = (A i).2.1) (hz : zA ≤ w'.heap.size) :
    ∃ g, (A i).1 = some ⟨g, 0, none⟩ ∧ MarkRel V zA gA cA A (mrk2 A Lf i (j + 1)) (w'.setCell ⟨g, j, none⟩ (.int .u8 ((i : Int) + 1))) ∧ ∃ x : Int, Lies w' ⟨g, j, none⟩ (.int .u8 x) := by
  obtain ⟨g, hg, hzg, h2, hx⟩ := h.1.set hi hj (b := i + 1) (by omega)
  have hcast : (((i + 1 : Nat)) : Int) = (i : Int) + 1 := by simp
  rw [hcast] at h2
  refine ⟨g, hg, ⟨h2.congr (fun q _ => ?_), ?_, h.2.2.setCell (p := ⟨g, j, none⟩) hzg _⟩, hx⟩
  · by_cases e : q = i
    · subst e
      rw [if_pos rfl]
      unfold mrk2
      rw [if_pos rfl, if_pos rfl, part_set _ _ _ (by omega)]
    · rw [if_neg e]
      unfold mrk2
      rw [if_neg e, if_neg e]
  · have hne := own_types (h.1.own i hi) h.2.1 g ⟨_, hg, rfl⟩
    refine ⟨h.2.1.1, ?_⟩
    rcases h.2.1.2 with h0 | ⟨g', cap, cur, hv, hz', hh, r⟩
    · exact .inl h0
    · refine .inr ⟨g', cap, cur, hv, hz', ?_, r⟩
      simp only [Value.slice.injEq, Option.some.injEq, Addr.mk.injEq] at hv
      obtain ⟨⟨rfl, _⟩, _⟩ := hv
      rw [Below.heap_setCell _ _ _ _ (fun e => hne (by simp [Value.ownBlock]; simpa using e.symm))]
      exact hh
theorem xor8 (x y : Int) : ∃ c : Nat, c < 256 ∧ bits .xor .u8 x y = (c : Int) := by
  refine ⟨(bits .xor .u8 x y).toNat, ?_, ?_⟩
  · have : bits .xor .u8 x y = IntKind.u8.wrap ((BitVec.ofInt 8 x ^^^ BitVec.ofInt 8 y).toNat : Int) := rfl
    rw [this, IntKind.wrap_u8]
    omega
  · have : bits .xor .u8 x y = IntKind.u8.wrap ((BitVec.ofInt 8 x ^^^ BitVec.ofInt 8 y).toNat : Int) := rfl
    rw [this, IntKind.wrap_u8]
    omega
theorem Lent.set {w : World} {base g n c : Nat} {L : List Nat} {j b : Nat} (h : Lent w base g n c L) (hj : j < n) (hb : b < 256) : Lent (w.setCell ⟨g, j, none⟩ (.int .u8 (b : Int))) base g n c (L.set j b) ∧ Lies w ⟨g, j, none⟩ (.int .u8 ((L.getD j 0 : Nat) : Int)) := by
  have hl := h.len
  obtain ⟨o2, x, hx⟩ := h.own.set (j := j) (b := b) (by omega) hb
  rw [List.set_append_left _ _ (by omega)] at o2
  refine ⟨⟨o2, by rw [List.length_set]; exact hl⟩, ?_, hx.2⟩
  have hc := h.row.cells _ rfl j _ (u8s_get L j (by omega))
  rw [addr_add0] at hc
  rw [hc]
  simp [List.getD, show j < L.length by omega]
/-- Behind so many turns. -/
def TurnRel (w : World) (zA bB gK zK gR bR n cap cl : Nat) (a : Option Addr) (B : List Nat) (v8 v16 v32 v o hi lo : Nat) (al t : Value) (w' : World) : Prop :=
  ∃ (i : Nat) (rs : List R4), i ≤ 2 ∧ t = .int .i64 (i : Int) ∧ rs.map (fun r => r.2.2.2) = (List.replicate i (nineL B v8 v16 v32 v o hi lo)).flatten ∧ w'.ownsRow zA 22 1 al (9 * i) (rs.map val4) ∧ Chain w' zA rs ∧
    Row w' a n cap B ∧ Lent w' zK gK n cl B ∧ CBox w' w.heap.size (o : Int) (hi : Int) (lo : Int) ∧ Rd w' gR bR ((B ++ B).drop (i * n)) ∧ Below w.heap.size w w' ∧ zA ≤ w'.heap.size

set_option maxRecDepth 100000 in
set_option maxHeartbeats 4000000 in
theorem fresh_walk (a : Option Addr) (n cap : Nat) (B : List Nat) (v : Nat) (oo : Int) (hi lo : Nat) (w : World) (h : Row w a n cap B) (hn : n ≤ 1048576) (hv : v < 18446744073709551616) (hhi : hi < 18446744073709551616) (hlo : lo < 18446744073709551616) :
    Calls Try.prog 3 #[.slice a n cap, .int .u64 (v : Int), .agg #[.int .i64 oo, .int .u64 (hi : Int), .int .u64 (lo : Int)]] w fun e w' => e = .returned (.bool true) ∧ Below w.heap.size w w' := by
  have hb0 : Below w.heap.size w (w.alloc (Obj.cells #[.int .i64 oo, .int .u64 (hi : Int), .int .u64 (lo : Int)] 27)) := below1 _ _
  have X := CBox.new w oo hi lo
  have XF : (w.alloc (Obj.cells #[.int .i64 oo, .int .u64 (hi : Int), .int .u64 (lo : Int)] 27)).frozen? ⟨w.heap.size, 0, none⟩ = false := by simp [go_sem]
  have R0 := h.alloc (Obj.cells #[.int .i64 oo, .int .u64 (hi : Int), .int .u64 (lo : Int)] 27)
  have HR00 : Hid (Row w a n cap B) := h
  obtain ⟨o, ho, hom⟩ : ∃ o : Nat, bits .and .i64 oo 4611686018427387903 = (o : Int) ∧ o ≤ 4611686018427387904 := ⟨(bits .and .i64 oo 4611686018427387903).toNat, by have := mask62 oo; omega, by have := mask62 oo; omega⟩
  have hBl := h.len
  have hBs := h.small
  obtain ⟨v8, hv8⟩ : ∃ x, x = v % 256 := ⟨_, rfl⟩
  obtain ⟨v16, hv16⟩ : ∃ x, x = v % 65536 := ⟨_, rfl⟩
  obtain ⟨v32, hv32⟩ : ∃ x, x = v % 4294967296 := ⟨_, rfl⟩
  have ew8 : IntKind.u8.wrap (v : Int) = (v8 : Int) := by rw [IntKind.wrap_u8]; omega
  have ew16 : IntKind.u16.wrap (v : Int) = (v16 : Int) := by rw [IntKind.wrap_u16]; omega
  have ew32 : IntKind.u32.wrap (v : Int) = (v32 : Int) := by rw [IntKind.wrap_u32]; omega
  have H8 : Hid (v8 < 256 ∧ v16 < 65536 ∧ v32 < 4294967296) := ⟨by omega, by omega, by omega⟩
  have HN : Hid (n ≤ 1048576 ∧ B.length = n ∧ o ≤ 4611686018427387904) := ⟨hn, hBl, hom⟩
  have HBs : Hid (∀ x ∈ B, x < 256) := hBs
  clear h hv8 hv16 hv32 hn hBl hBs hom
  go_enter Try.func3, Try.ntmps3
  go_upto_region 3 with (first | (go_at_call 7; refine (head_any _).mono ?_; rintro e w1 ⟨rfl, hb⟩; replace hb0 := below_call hb0 hb; replace R0 := R0.later hb; replace X := X.later hb; have XF1 : w1.frozen? ⟨w.heap.size, 0, none⟩ = false := (by rw [hb.frozen (by simp)]; exact XF); clear hb XF))
  have x0 := X.1
  have hw1 := hb0.size
  have X2 : CBox (w1.setCell ⟨w.heap.size, 0, none⟩ (.int .i64 (o : Int))) w.heap.size (o : Int) (hi : Int) (lo : Int) := ⟨World.cell?_setCell_same _ _ _ X.1, cell_set_ne X.2.1 (by omega), cell_set_ne X.2.2 (by omega)⟩
  have hbS : But (· = w.heap.size) w1 (w1.setCell ⟨w.heap.size, 0, none⟩ (.int .i64 (o : Int))) := (But.refl (· = w.heap.size) w1).setCell (p := ⟨w.heap.size, 0, none⟩) rfl _
  replace R0 := R0.but hbS (fun j hj hL e => by
    have := (HR00.out).blk_lt hL j hj
    omega)
  replace hb0 := hb0.setCell (p := ⟨w.heap.size, 0, none⟩) (Nat.le_refl _) (.int .i64 (o : Int))
  go_upto_region 4 with fail
  clear X XF1 hbS x0
  generalize w1.setCell ⟨w.heap.size, 0, none⟩ (.int .i64 (o : Int)) = w2 at *
  have hw2 : w.heap.size < w2.heap.size := World.block_lt_of_cell? _ _ X2.1
  go_upto_region 5 with (first | (go_at_call 8; refine (lent_any a n cap B _ R0 (by have := HN.out; omega)).mono ?_; rintro e w3 ⟨gK, cl, rfl, K, hb⟩; have hzK := K.own.blk gK ⟨_, rfl, rfl⟩; have hzK2 := K.own.lt gK ⟨_, rfl, rfl⟩; replace hb0 := below_call hb0 hb; replace R0 := R0.later hb; replace X2 := X2.later hb; clear hb))
  obtain ⟨g4, c4, w4, hrun4, O4, hb4⟩ := append_empty R0 (by have := HN.out; omega) _ rfl
  have R4b := R0.later hb4
  obtain ⟨a5, c5, w5, hrun5, O5, hG5⟩ := append_any O4 R4b hb4.size (by have := HN.out; omega)
  have hb5 : Below w3.heap.size w3 w5 := hb4.trans (hG5.below O4 hb4.size)
  have HRUN4 : Hid _ := hrun4
  have HRUN5 : Hid _ := hrun5
  replace hb0 := below_call hb0 hb5
  replace R0 := R0.later hb5
  replace X2 := X2.later hb5
  replace K := K.later hb5
  have hw5 := hb5.size
  have hzK3 := K.own.lt gK ⟨_, rfl, rfl⟩
  clear hrun4 hrun5 hb4 hb5 hG5 R4b O4
  go_upto_region 6 with (first | (at_builtin; have hq_ := mk1; clear hq_; refine wpList_append_known rfl _ _ 22 rfl _ _ rfl rfl _ w5 HRUN5.out ?_) | (at_builtin; refine wpList_append_known rfl _ _ 22 rfl _ _ rfl rfl _ w4 HRUN4.out ?_; obtain ⟨mk1, _⟩ : ∃ m : Nat, m = 0 := ⟨0, rfl⟩) | (go_at_call 9; refine (newReader2 _ _ _ (B ++ B) _ O5.read (by have := HN.out; omega)).mono ?_; rintro e w6 ⟨gR, bR, rfl, rd, hgR, hbR, hbRl, hb⟩; replace hb0 := below_call hb0 hb; replace R0 := R0.later hb; replace X2 := X2.later hb; replace K := K.later hb; have hgRl := rd.lt; clear hb))
  clear HRUN4 HRUN5 O5
  obtain ⟨zA, hzA⟩ : ∃ z, z = w6.heap.size := ⟨_, rfl⟩
  have HZ : Hid (w.heap.size < zA ∧ gK < zA ∧ gR < zA ∧ bR < zA ∧ w.heap.size ≤ gR ∧ w.heap.size ≠ gR ∧ gK ≠ gR ∧ w.heap.size ≤ gK ∧ gK ≠ w.heap.size ∧ gK ≠ bR) := by
    have := World.block_lt_of_cell? _ _ X2.1
    have h9 := K.own.lt gK ⟨_, rfl, rfl⟩
    simp only at this
    refine ⟨?_, ?_, ?_, ?_, ?_, ?_, ?_, ?_, ?_, ?_⟩ <;> omega
  have HT0 : Hid (TurnRel w zA 0 gK w2.heap.size gR bR n cap cl a B v8 v16 v32 v o hi lo (.slice none 0 0) (.int .i64 0) w6) := by
    refine ⟨0, [], by omega, rfl, rfl, ⟨rfl, .inl ⟨rfl, rfl⟩⟩, Chain.nil _ _, R0, K, X2, ?_, hb0, by omega⟩
    rw [Nat.zero_mul, List.drop_zero]; exact rd
  clear R0 K X2 rd hb0 hzA hzK hzK2 hzK3 hw5 hgR hbR hbRl hgRl hw1 hw2
  go_wp2
  go_loopw [9, 11] (TurnRel w zA 0 gK w2.heap.size gR bR n cap cl a B v8 v16 v32 v o hi lo) (fun _ t _ => 2 - (intOf t).toNat)
  case atStart => exact HT0.out
  case round =>
    clear HT0
    obtain ⟨i, rs, hi2, rfl, hrs, hall, hch, R0, K, X2, rd, hb0, hzw⟩ := hrel
    by_cases hlt : i < 2
    · have hd : decide ((i : Int) < 2) = true := by simp; omega
      have KR := K.row
      have x0 := X2.1
      have x1 := X2.2.1
      have x2 := X2.2.2
      have hpe : pcE (o : Int) = 0 := by unfold pcE; rw [if_neg (by have := HN.out.2.2; omega)]
      have hpl : pcL B (o : Int) hi lo = B ++ leL o 8 ++ leL lo 8 ++ leL hi 8 := by unfold pcL; rw [if_pos hpe, Int.toNat_natCast]
      have hBB : (B ++ B).length = n + n := by have := HN.out.2.1; rw [List.length_append]; omega
      have hin : i * n + n ≤ n + n := by
        have : i = 0 ∨ i = 1 := by omega
        rcases this with rfl | rfl <;> omega
      have hdl : ((B ++ B).drop (i * n)).length = n + n - i * n := by rw [List.length_drop, hBB]
      have hrow1 : rowE ((B ++ B).drop (i * n)) (n : Int) = 0 := by unfold rowE; rw [if_neg (by omega), if_neg (by omega)]
      have hrow2 : rowN ((B ++ B).drop (i * n)) (n : Int) = n := by unfold rowN; rw [if_pos hrow1, Int.toNat_natCast]
      have hrow3 : ((B ++ B).drop (i * n)).take n = B := by
        have hl := HN.out.2.1
        have : i = 0 ∨ i = 1 := by omega
        rcases this with rfl | rfl
        · rw [Nat.zero_mul, List.drop_zero, List.take_left' hl]
        · rw [Nat.one_mul, List.drop_left' hl, List.take_of_length_le (by omega)]
      have hrow4 : ((B ++ B).drop (i * n)).drop n = (B ++ B).drop ((i + 1) * n) := by rw [List.drop_drop, Nat.succ_mul]
      go_upto_region 13 with (first | (go_at_call 10; refine (putCap_any _ _ _ B (o : Int) hi lo _ hhi hlo KR (by have := HN.out; omega)).mono ?_; rintro e w7 ⟨ax, nx, cx, rfl, PX, hb⟩; rw [hpe]; rw [hpl] at PX; have CH1 := hch.call hb PX hzw; replace hall := own_later hb hall; replace R0 := R0.later hb; replace K := K.later hb; replace X2 := X2.later hb; replace rd := rd.later hb; replace hb0 := below_call hb0 hb; replace hzw := Nat.le_trans hzw hb.size; clear hb x0 x1 x2 KR hch PX))
      go_upto_region 16 with (first | (go_at_call 11; refine (row_any gR bR _ (n : Int) _ rd (by have := HN.out; omega)).mono ?_; rintro e w8 ⟨ar, nr, cr, rfl, PR, rd1, hbut⟩; rw [hrow1]; rw [hrow2, hrow3] at PR; rw [hrow2, hrow4] at rd1))
      have hz7 := hzw
      have CH2 := (CH1.but hbut (fun k hk e => by have := HZ.out; omega)).snoc PR hzw (fun r hr k hk => (CH1.own r hr).lt k hk)
      replace hall := own_but hbut hall (fun k hk e => by have := HZ.out; omega)
      replace R0 := R0.but hbut (fun j hj hL e => by have := (HR00.out).blk_lt hL j hj; have := HZ.out; omega)
      replace K := K.but' hbut (by have := HZ.out; omega)
      replace X2 := X2.but hbut (by have := HZ.out; omega)
      replace hb0 := But.below hb0 hbut (fun k hk => by have := HZ.out; omega)
      replace hzw := Nat.le_trans hzw hbut.size
      clear CH1 PR rd hbut hpe hpl hin hrow1 hrow2 hrow3 hrow4 hdl hBB hz7
      have HST : Hid (Row w8 a n cap B ∧ Lent w8 w2.heap.size gK n cl B ∧ CBox w8 w.heap.size (o : Int) (hi : Int) (lo : Int) ∧ Rd w8 gR bR ((B ++ B).drop ((i + 1) * n)) ∧ Below w.heap.size w w8 ∧ zA ≤ w8.heap.size ∧ w8.ownsRow zA 22 1 u9 (9 * i) (rs.map val4)) := ⟨R0, K, X2, rd1, hb0, hzw, hall⟩
      have HCH : Hid (Chain w8 zA (rs ++ [(ax, nx, cx, B ++ leL o 8 ++ leL lo 8 ++ leL hi 8)] ++ [(ar, nr, cr, B)])) := CH2
      clear R0 K X2 rd1 hb0 hzw hall CH2
      · skip
        have hz0 : Hid (zA ≤ w8.drew.heap.size) := HST.out.2.2.2.2.2.1
        have KR : Hid (Row w8.drew (some ⟨gK, 0, none⟩) n cl B) := (HST.out.2.1.row).later (Below.refl _ _).drew
        have HX : Hid (∀ u, Below w8.drew.heap.size w8.drew u → (u.cell? ⟨w.heap.size, 0, none⟩ = some (.int .i64 (o : Int)) ∧ u.cell? ⟨w.heap.size, 1, none⟩ = some (.int .u64 (hi : Int)) ∧ u.cell? ⟨w.heap.size, 2, none⟩ = some (.int .u64 (lo : Int)))) := fun u hu => (HST.out.2.2.1.later (Below.refl _ _).drew).later hu
        have HX4 : Hid (∀ u, Below zA w8.drew u → (u.cell? ⟨w.heap.size, 0, none⟩ = some (.int .i64 (o : Int)) ∧ u.cell? ⟨w.heap.size, 1, none⟩ = some (.int .u64 (hi : Int)) ∧ u.cell? ⟨w.heap.size, 2, none⟩ = some (.int .u64 (lo : Int)))) := fun u hu => by
          have hz := HZ.out.1
          obtain ⟨q0, q1, q2⟩ := HST.out.2.2.1
          exact ⟨by rw [hu.cell hz]; exact q0, by rw [hu.cell hz]; exact q1, by rw [hu.cell hz]; exact q2⟩
        have hall0 : Hid (w8.drew.ownsRow zA 22 1 u9 (9 * i) (rs.map val4)) := own_later (Below.refl _ _).drew HST.out.2.2.2.2.2.2
        obtain ⟨base, hbase⟩ : ∃ base, base = rs ++ [(ax, nx, cx, B ++ leL o 8 ++ leL lo 8 ++ leL hi 8)] ++ [(ar, nr, cr, B)] := ⟨_, rfl⟩
        have CH0 : Hid (Chain w8.drew zA base) := by unfold Hid; rw [hbase]; exact HCH.out.drew
        have Hi : Hid (i < 2) := hlt
        have FIN9 : Hid (∀ nine : List R4, nine.map (fun r => r.2.2.2) = nineL B v8 v16 v32 v o hi lo → ∀ (v9 : Value) (w9 : World), w9.ownsRow zA 22 1 v9 (9 * i + 9) (rs.map val4 ++ nine.map val4) → Chain w9 zA (rs ++ nine) → Below zA w8.drew w9 → TurnRel w zA 0 gK w2.heap.size gR bR n cap cl a B v8 v16 v32 v o hi lo v9 (.int .i64 ((i : Int) + 1)) w9) := by
          intro nine h9 v9 w9 q1 q2 q3
          obtain ⟨R0, K, X2, rd1, hb0, hzw, hall⟩ := HST.out
          have hB8 : Below zA w8 w9 := ⟨q3.os, q3.tape, q3.output, q3.size, q3.block⟩
          have hbt := but_of_below hB8
          obtain ⟨z1, z2, z3, z4, z5⟩ := HZ.out
          refine ⟨i + 1, rs ++ nine, by omega, by simp, ?_, ?_, q2, R0.but hbt (fun j hj hL e => by have := (HR00.out).blk_lt hL j hj; omega), K.but' hbt (by omega), X2.but hbt (by omega), rd1.but hbt (by omega) (by omega), hb0.trans (hB8.mono (by omega)), Nat.le_trans hzw hB8.size⟩
          · rw [List.map_append, h9, hrs]
            have e : i + 1 = i + 1 := rfl
            rw [List.replicate_succ', List.flatten_append]
            simp
          · rw [List.map_append, Nat.mul_succ]; exact q1
        refine wp_region_held_drew (S := fun u => (u.cell? ⟨w.heap.size, 0, none⟩ = some (.int .i64 (o : Int)) ∧ u.cell? ⟨w.heap.size, 1, none⟩ = some (.int .u64 (hi : Int)) ∧ u.cell? ⟨w.heap.size, 2, none⟩ = some (.int .u64 (lo : Int)))) (by kernel_rfl) (HX.out _ (Below.refl _ _)) (fun hHeld => ?_)
        generalize hu0 : w8.drew = u0 at *
        clear hu0
        refine wpAnyH_norm (l2 := #[false, false, false, false, false, false, false, false, false, false, false, false, false, false, false, false, false, false, false, false, false, false, false, false, false, false, false, false, false, false, false, false]) (f2 := 32) (by kernel_rfl) (by kernel_rfl) ?_
        refine wpAnyH_take (i := 0) (oi := _) (v := ?_) rfl (by kernel_rfl) (by kernel_rfl) (by kernel_rfl) (fun _ _ _ h => h) (Or.inl ⟨by rfl, ?_⟩) (by assumption) ?_
        rotate_left
        · (intro w hSw; (try dsimp only at hSw); go_simp; try with_reducible rfl)
        simp only [List.getElem_toArray, List.getElem_cons_succ, List.getElem_cons_zero, Act.put, List.setIfInBounds_toArray, List.set_cons_zero, List.set_cons_succ]
        refine wpAnyH_norm (l2 := #[true, false, false, false, false, false, false, false, false, false, false, false, false, false, false, false, false, false, false, false, false, false, false, false, false, false, false, false, false, false, false, false]) (f2 := 31) (by kernel_rfl) (by kernel_rfl) ?_
        refine wpAnyH_take (i := 1) (oi := _) (v := ?_) rfl (by kernel_rfl) (by kernel_rfl) (by kernel_rfl) (fun _ _ _ h => h) (Or.inl ⟨by rfl, ?_⟩) (by assumption) ?_
        rotate_left
        · (intro w hSw; (try dsimp only at hSw); go_simp; try with_reducible rfl)
        simp only [List.getElem_toArray, List.getElem_cons_succ, List.getElem_cons_zero, Act.put, List.setIfInBounds_toArray, List.set_cons_zero, List.set_cons_succ]
        refine wpAnyH_norm (l2 := #[true, true, false, false, false, false, false, false, false, false, false, false, false, false, false, false, false, false, false, false, false, false, false, false, false, false, false, false, false, false, false, false]) (f2 := 30) (by kernel_rfl) (by kernel_rfl) ?_
        refine wpAnyH_take (i := 2) (oi := _) (v := ?_) rfl (by kernel_rfl) (by kernel_rfl) (by kernel_rfl) (fun _ _ _ h => h) (Or.inl ⟨by rfl, ?_⟩) (by assumption) ?_
        rotate_left
        · (intro w hSw; (try dsimp only at hSw); go_simp; try with_reducible rfl)
        simp only [List.getElem_toArray, List.getElem_cons_succ, List.getElem_cons_zero, Act.put, List.setIfInBounds_toArray, List.set_cons_zero, List.set_cons_succ]
        refine wpAnyH_norm (l2 := #[true, true, true, false, false, false, false, false, false, false, false, false, false, false, false, false, false, false, false, false, false, false, false, false, false, false, false, false, false, false, false, false]) (f2 := 29) (by kernel_rfl) (by kernel_rfl) ?_
        refine wpAnyH_take (i := 3) (oi := _) (v := ?_) rfl (by kernel_rfl) (by kernel_rfl) (by kernel_rfl) (fun _ _ _ h => h) (Or.inl ⟨by rfl, ?_⟩) (by assumption) ?_
        rotate_left
        · (intro w hSw; (try dsimp only at hSw); go_simp; try with_reducible rfl)
        simp only [List.getElem_toArray, List.getElem_cons_succ, List.getElem_cons_zero, Act.put, List.setIfInBounds_toArray, List.set_cons_zero, List.set_cons_succ]
        refine wpAnyH_norm (l2 := #[true, true, true, true, false, false, false, false, false, false, false, false, false, false, false, false, false, false, false, false, false, false, false, false, false, false, false, false, false, false, false, false]) (f2 := 28) (by kernel_rfl) (by kernel_rfl) ?_
        refine wpAnyH_take (i := 5) (oi := _) (v := ?_) rfl (by kernel_rfl) (by kernel_rfl) (by kernel_rfl) (fun _ _ _ h => h) (Or.inl ⟨by rfl, ?_⟩) (by assumption) ?_
        rotate_left
        · (intro w hSw; (try dsimp only at hSw); go_simp; try with_reducible rfl)
        simp only [List.getElem_toArray, List.getElem_cons_succ, List.getElem_cons_zero, Act.put, List.setIfInBounds_toArray, List.set_cons_zero, List.set_cons_succ]
        refine wpAnyH_norm (l2 := #[true, true, true, true, false, true, false, false, false, false, false, false, false, false, false, false, false, false, false, false, false, false, false, false, false, false, false, false, false, false, false, false]) (f2 := 27) (by kernel_rfl) (by kernel_rfl) ?_
        refine wpAnyH_take (i := 6) (oi := _) (v := ?_) rfl (by kernel_rfl) (by kernel_rfl) (by kernel_rfl) (fun _ _ _ h => h) (Or.inl ⟨by rfl, ?_⟩) (by assumption) ?_
        rotate_left
        · (intro w hSw; (try dsimp only at hSw); go_simp; try with_reducible rfl)
        simp only [List.getElem_toArray, List.getElem_cons_succ, List.getElem_cons_zero, Act.put, List.setIfInBounds_toArray, List.set_cons_zero, List.set_cons_succ]
        refine wpAnyH_norm (l2 := #[true, true, true, true, false, true, true, false, false, false, false, false, false, false, false, false, false, false, false, false, false, false, false, false, false, false, false, false, false, false, false, false]) (f2 := 26) (by kernel_rfl) (by kernel_rfl) ?_
        refine wpAnyH_take (i := 7) (oi := _) (v := ?_) rfl (by kernel_rfl) (by kernel_rfl) (by kernel_rfl) (fun _ _ _ h => h) (Or.inl ⟨by rfl, ?_⟩) (by assumption) ?_
        rotate_left
        · (intro w hSw; (try dsimp only at hSw); go_simp; try with_reducible rfl)
        simp only [List.getElem_toArray, List.getElem_cons_succ, List.getElem_cons_zero, Act.put, List.setIfInBounds_toArray, List.set_cons_zero, List.set_cons_succ]
        refine wpAnyH_norm (l2 := #[true, true, true, true, false, true, true, true, false, false, false, false, false, false, false, false, false, false, false, false, false, false, false, false, false, false, false, false, false, false, false, false]) (f2 := 25) (by kernel_rfl) (by kernel_rfl) ?_
        refine wpAnyH_take (i := 9) (oi := _) (v := ?_) rfl (by kernel_rfl) (by kernel_rfl) (by kernel_rfl) (fun _ _ _ h => h) (Or.inl ⟨by rfl, ?_⟩) (by assumption) ?_
        rotate_left
        · (intro w hSw; (try dsimp only at hSw); go_simp; try with_reducible rfl)
        simp only [List.getElem_toArray, List.getElem_cons_succ, List.getElem_cons_zero, Act.put, List.setIfInBounds_toArray, List.set_cons_zero, List.set_cons_succ]
        refine wpAnyH_norm (l2 := #[true, true, true, true, false, true, true, true, false, true, false, false, false, false, false, false, false, false, false, false, false, false, false, false, false, false, false, false, false, false, false, false]) (f2 := 24) (by kernel_rfl) (by kernel_rfl) ?_
        refine wpAnyH_take (i := 10) (oi := _) (v := ?_) rfl (by kernel_rfl) (by kernel_rfl) (by kernel_rfl) (fun _ _ _ h => h) (Or.inl ⟨by rfl, ?_⟩) (by assumption) ?_
        rotate_left
        · (intro w hSw; (try dsimp only at hSw); go_simp; try with_reducible rfl)
        simp only [List.getElem_toArray, List.getElem_cons_succ, List.getElem_cons_zero, Act.put, List.setIfInBounds_toArray, List.set_cons_zero, List.set_cons_succ]
        refine wpAnyH_norm (l2 := #[true, true, true, true, false, true, true, true, false, true, true, false, false, false, false, false, false, false, false, false, false, false, false, false, false, false, false, false, false, false, false, false]) (f2 := 23) (by kernel_rfl) (by kernel_rfl) ?_
        refine wpAnyH_take (i := 11) (oi := _) (v := ?_) rfl (by kernel_rfl) (by kernel_rfl) (by kernel_rfl) (fun _ _ _ h => h) (Or.inl ⟨by rfl, ?_⟩) (by assumption) ?_
        rotate_left
        · (intro w hSw; (try dsimp only at hSw); go_simp; try with_reducible rfl)
        simp only [List.getElem_toArray, List.getElem_cons_succ, List.getElem_cons_zero, Act.put, List.setIfInBounds_toArray, List.set_cons_zero, List.set_cons_succ]
        refine wpAnyH_norm (l2 := #[true, true, true, true, false, true, true, true, false, true, true, true, false, false, false, false, false, false, false, false, false, false, false, false, false, false, false, false, false, false, false, false]) (f2 := 22) (by kernel_rfl) (by kernel_rfl) ?_
        refine wpAnyH_take (i := 13) (oi := _) (v := ?_) rfl (by kernel_rfl) (by kernel_rfl) (by kernel_rfl) (fun _ _ _ h => h) (Or.inl ⟨by rfl, ?_⟩) (by assumption) ?_
        rotate_left
        · (intro w hSw; (try dsimp only at hSw); go_simp; try with_reducible rfl)
        simp only [List.getElem_toArray, List.getElem_cons_succ, List.getElem_cons_zero, Act.put, List.setIfInBounds_toArray, List.set_cons_zero, List.set_cons_succ]
        refine wpAnyH_norm (l2 := #[true, true, true, true, false, true, true, true, false, true, true, true, false, true, false, false, false, false, false, false, false, false, false, false, false, false, false, false, false, false, false, false]) (f2 := 21) (by kernel_rfl) (by kernel_rfl) ?_
        refine wpAnyH_take (i := 14) (oi := _) (v := ?_) rfl (by kernel_rfl) (by kernel_rfl) (by kernel_rfl) (fun _ _ _ h => h) (Or.inl ⟨by rfl, ?_⟩) (by assumption) ?_
        rotate_left
        · (intro w hSw; (try dsimp only at hSw); go_simp; try with_reducible rfl)
        simp only [List.getElem_toArray, List.getElem_cons_succ, List.getElem_cons_zero, Act.put, List.setIfInBounds_toArray, List.set_cons_zero, List.set_cons_succ]
        refine wpAnyH_norm (l2 := #[true, true, true, true, false, true, true, true, false, true, true, true, false, true, true, false, false, false, false, false, false, false, false, false, false, false, false, false, false, false, false, false]) (f2 := 20) (by kernel_rfl) (by kernel_rfl) ?_
        refine wpAnyH_take (i := 16) (oi := _) (v := ?_) rfl (by kernel_rfl) (by kernel_rfl) (by kernel_rfl) (fun _ _ _ h => h) (Or.inl ⟨by rfl, ?_⟩) (by assumption) ?_
        rotate_left
        · (intro w hSw; (try dsimp only at hSw); go_simp; try with_reducible rfl)
        simp only [List.getElem_toArray, List.getElem_cons_succ, List.getElem_cons_zero, Act.put, List.setIfInBounds_toArray, List.set_cons_zero, List.set_cons_succ]
        refine wpAnyH_norm (l2 := #[true, true, true, true, false, true, true, true, false, true, true, true, false, true, true, false, true, false, false, false, false, false, false, false, false, false, false, false, false, false, false, false]) (f2 := 19) (by kernel_rfl) (by kernel_rfl) ?_
        refine wpAnyH_take (i := 17) (oi := _) (v := ?_) rfl (by kernel_rfl) (by kernel_rfl) (by kernel_rfl) (fun _ _ _ h => h) (Or.inl ⟨by rfl, ?_⟩) (by assumption) ?_
        rotate_left
        · (intro w hSw; (try dsimp only at hSw); go_simp; try with_reducible rfl)
        simp only [List.getElem_toArray, List.getElem_cons_succ, List.getElem_cons_zero, Act.put, List.setIfInBounds_toArray, List.set_cons_zero, List.set_cons_succ]
        refine wpAnyH_norm (l2 := #[true, true, true, true, false, true, true, true, false, true, true, true, false, true, true, false, true, true, false, false, false, false, false, false, false, false, false, false, false, false, false, false]) (f2 := 18) (by kernel_rfl) (by kernel_rfl) ?_
        refine wpAnyH_take (i := 18) (oi := _) (v := ?_) rfl (by kernel_rfl) (by kernel_rfl) (by kernel_rfl) (fun _ _ _ h => h) (Or.inl ⟨by rfl, ?_⟩) (by assumption) ?_
        rotate_left
        · (intro w hSw; (try dsimp only at hSw); go_simp; try with_reducible rfl)
        simp only [List.getElem_toArray, List.getElem_cons_succ, List.getElem_cons_zero, Act.put, List.setIfInBounds_toArray, List.set_cons_zero, List.set_cons_succ]
        refine wpAnyH_norm (l2 := #[true, true, true, true, false, true, true, true, false, true, true, true, false, true, true, false, true, true, true, false, false, false, false, false, false, false, false, false, false, false, false, false]) (f2 := 17) (by kernel_rfl) (by kernel_rfl) ?_
        refine wpAnyH_take (i := 20) (oi := _) (v := ?_) rfl (by kernel_rfl) (by kernel_rfl) (by kernel_rfl) (fun _ _ _ h => h) (Or.inl ⟨by rfl, ?_⟩) (by assumption) ?_
        rotate_left
        · (intro w hSw; (try dsimp only at hSw); go_simp; try with_reducible rfl)
        simp only [List.getElem_toArray, List.getElem_cons_succ, List.getElem_cons_zero, Act.put, List.setIfInBounds_toArray, List.set_cons_zero, List.set_cons_succ]
        refine wpAnyH_norm (l2 := #[true, true, true, true, false, true, true, true, false, true, true, true, false, true, true, false, true, true, true, false, true, false, false, false, false, false, false, false, false, false, false, false]) (f2 := 16) (by kernel_rfl) (by kernel_rfl) ?_
        refine wpAnyH_take (i := 21) (oi := _) (v := ?_) rfl (by kernel_rfl) (by kernel_rfl) (by kernel_rfl) (fun _ _ _ h => h) (Or.inl ⟨by rfl, ?_⟩) (by assumption) ?_
        rotate_left
        · (intro w hSw; (try dsimp only at hSw); go_simp; try with_reducible rfl)
        simp only [List.getElem_toArray, List.getElem_cons_succ, List.getElem_cons_zero, Act.put, List.setIfInBounds_toArray, List.set_cons_zero, List.set_cons_succ]
        refine wpAnyH_norm (l2 := #[true, true, true, true, false, true, true, true, false, true, true, true, false, true, true, false, true, true, true, false, true, true, false, false, false, false, false, false, false, false, false, false]) (f2 := 15) (by kernel_rfl) (by kernel_rfl) ?_
        refine wpAnyH_take (i := 22) (oi := _) (v := ?_) rfl (by kernel_rfl) (by kernel_rfl) (by kernel_rfl) (fun _ _ _ h => h) (Or.inl ⟨by rfl, ?_⟩) (by assumption) ?_
        rotate_left
        · (intro w hSw; (try dsimp only at hSw); go_simp; try with_reducible rfl)
        simp only [List.getElem_toArray, List.getElem_cons_succ, List.getElem_cons_zero, Act.put, List.setIfInBounds_toArray, List.set_cons_zero, List.set_cons_succ]
        refine wpAnyH_norm (l2 := #[true, true, true, true, false, true, true, true, false, true, true, true, false, true, true, false, true, true, true, false, true, true, true, false, false, false, false, false, false, false, false, false]) (f2 := 14) (by kernel_rfl) (by kernel_rfl) ?_
        refine wpAnyH_take (i := 25) (oi := _) (v := ?_) rfl (by kernel_rfl) (by kernel_rfl) (by kernel_rfl) (fun _ _ _ h => h) (Or.inl ⟨by rfl, ?_⟩) (by assumption) ?_
        rotate_left
        · (intro w hSw; (try dsimp only at hSw); go_simp; try with_reducible rfl)
        simp only [List.getElem_toArray, List.getElem_cons_succ, List.getElem_cons_zero, Act.put, List.setIfInBounds_toArray, List.set_cons_zero, List.set_cons_succ]
        refine wpAnyH_norm (l2 := #[true, true, true, true, false, true, true, true, false, true, true, true, false, true, true, false, true, true, true, false, true, true, true, false, false, true, false, false, false, false, false, false]) (f2 := 13) (by kernel_rfl) (by kernel_rfl) ?_
        refine wpAnyH_take (i := 28) (oi := _) (v := ?_) rfl (by kernel_rfl) (by kernel_rfl) (by kernel_rfl) (fun _ _ _ h => h) (Or.inl ⟨by rfl, ?_⟩) (by assumption) ?_
        rotate_left
        · (intro w hSw; (try dsimp only at hSw); go_simp; try with_reducible rfl)
        simp only [List.getElem_toArray, List.getElem_cons_succ, List.getElem_cons_zero, Act.put, List.setIfInBounds_toArray, List.set_cons_zero, List.set_cons_succ]
        refine share (Option Addr × Nat × Option Addr × Nat × Option Addr × Nat × Option Addr × Nat × Option Addr × Nat × Option Addr × Nat × Nat × Nat × Nat) 4 #[true, true, true, true, true, true, true, true, true, true, true, true, true, true, true, true, true, true, true, true, true, true, true, true, true, true, true, false, true, false, false, false] (fun a x => (((((((a.put (some 67) (.slice x.1 (n + 1) x.2.1)).put (some 71) (.slice x.2.2.1 (n + 2) x.2.2.2.1)).put (some 75) (.slice x.2.2.2.2.1 (n + 4) x.2.2.2.2.2.1)).put (some 78) (.slice x.2.2.2.2.2.2.1 (n + 8) x.2.2.2.2.2.2.2.1)).put (some 82) (.slice x.2.2.2.2.2.2.2.2.1 (n + 16) x.2.2.2.2.2.2.2.2.2.1)).put (some 87) (.slice x.2.2.2.2.2.2.2.2.2.2.1 (x.2.2.2.2.2.2.2.2.2.2.2.1) x.2.2.2.2.2.2.2.2.2.2.2.2.1)).put (some 86) (.slice (some ⟨x.2.2.2.2.2.2.2.2.2.2.2.2.2.1, 0, none⟩) 2 2)).put (some 89) (.slice (some ⟨x.2.2.2.2.2.2.2.2.2.2.2.2.2.2, 0, none⟩) 1 1)) (fun x u => Below u0.heap.size u0 u ∧ Chain u zA (base ++ [(x.1, n + 1, x.2.1, B ++ leL v8 1), (x.2.2.1, n + 2, x.2.2.2.1, B ++ leL v16 2), (x.2.2.2.2.1, n + 4, x.2.2.2.2.2.1, B ++ leL v32 4), (x.2.2.2.2.2.2.1, n + 8, x.2.2.2.2.2.2.2.1, B ++ leL v 8), (x.2.2.2.2.2.2.2.2.1, n + 16, x.2.2.2.2.2.2.2.2.2.1, B ++ leL lo 8 ++ leL hi 8), (x.2.2.2.2.2.2.2.2.2.2.1, x.2.2.2.2.2.2.2.2.2.2.2.1, x.2.2.2.2.2.2.2.2.2.2.2.2.1, B ++ B)]) ∧ (u.cell? ⟨x.2.2.2.2.2.2.2.2.2.2.2.2.2.1, 0, none⟩ = some (.slice (some ⟨gK, 0, none⟩) n cl) ∧ u.cell? ⟨x.2.2.2.2.2.2.2.2.2.2.2.2.2.1, 1, none⟩ = some (.slice (some ⟨gK, 0, none⟩) n cl)) ∧ u.cell? ⟨x.2.2.2.2.2.2.2.2.2.2.2.2.2.2, 0, none⟩ = some (.slice (some ⟨gK, 0, none⟩) n cl)) ?_ (fun KEY611 => ?_)
        · intro x u hpre
          obtain ⟨a1, c1, a2, c2, a4, c4, a8, c8, aw, cw, aj, nj, cj, g23, g26⟩ := x
          obtain ⟨hB, CH, hc23, hc26⟩ := hpre
          have hHeld := HX.out _ hB
          simp only [List.getElem_toArray, List.getElem_cons_succ, List.getElem_cons_zero, Act.put, List.setIfInBounds_toArray, List.set_cons_zero, List.set_cons_succ]
          have KRu := KR.out.later hB
          have hzu := Nat.le_trans hz0.out hB.size
          refine wpAnyH_norm (l2 := #[true, true, true, true, true, true, true, true, true, true, true, true, true, true, true, true, true, true, true, true, true, true, true, true, true, true, true, false, true, false, false, false]) (f2 := 4) (by kernel_rfl) (by kernel_rfl) ?_
          refine wpAnyH_ready (rs := [27]) (by kernel_rfl) (by simp) ?_
          refine AllReadyH.cons rfl (fun K hK => ?_) AllReadyH.nil
          · go_simp
            go_wp2_with (first | (go_at_call 17; refine (join_any g26 1 1 [(some ⟨gK, 0, none⟩, n, cl, B)] _ rfl (by simp) (one_cell hc26) (fun r hr => (by simp at hr; subst hr; exact KRu)) (by have := HN.out; simp [cat4]; omega)).mono ?_; rintro e U ⟨ak, nk, ck, rfl, P, hb⟩))
            have hcat : cat4 [(some ⟨gK, 0, none⟩, n, cl, B)] = B := by simp [cat4]
            rw [hcat] at P
            have hB2 := below_call hB hb
            have CH2 := CH.call hb P hzu
            rw [List.append_assoc] at CH2
            refine hK.out _ _ (HX.out _ hB2) (fun _ => ?_)
            clear hK K
            simp only [List.getElem_toArray, List.getElem_cons_succ, List.getElem_cons_zero, Act.put, List.setIfInBounds_toArray, List.set_cons_zero, List.set_cons_succ]
            refine wpAnyH_norm (l2 := #[true, true, true, true, true, true, true, true, true, true, true, true, true, true, true, true, true, true, true, true, true, true, true, true, true, true, true, true, true, false, false, false]) (f2 := 3) (by kernel_rfl) (by kernel_rfl) ?_
            refine wpAnyH_ready (rs := [29]) (by kernel_rfl) (by simp) ?_
            refine AllReadyH.cons rfl (fun K hK => ?_) AllReadyH.nil
            go_simp
            have hb9 := below1 U (Obj.cells #[.slice a1 (n + 1) c1, .slice a2 (n + 2) c2, .slice a4 (n + 4) c4, .slice a8 (n + 8) c8, .slice aw (n + 16) cw, .slice ax nx cx, .slice aj nj cj, .slice ak nk ck, .slice ar nr cr] 22)
            have hB3 := below_call hB2 hb9
            refine hK.out _ _ (HX.out _ hB3) (fun _ => ?_)
            clear hK K
            simp only [List.getElem_toArray, List.getElem_cons_succ, List.getElem_cons_zero, Act.put, List.setIfInBounds_toArray, List.set_cons_zero, List.set_cons_succ]
            obtain ⟨v9, w9, hrun9, hall9, hg9⟩ := all_run (own_later hB3 hall0.out) U.heap.size 9 [(a1, n + 1, c1, B ++ leL v8 1), (a2, n + 2, c2, B ++ leL v16 2), (a4, n + 4, c4, B ++ leL v32 4), (a8, n + 8, c8, B ++ leL v 8), (aw, n + 16, cw, B ++ leL lo 8 ++ leL hi 8), (ax, nx, cx, B ++ leL o 8 ++ leL lo 8 ++ leL hi 8), (aj, nj, cj, B ++ B), (ak, nk, ck, B), (ar, nr, cr, B)] rfl (nine_cells U _ rfl) (Nat.le_trans hz0.out hB3.size) (by have := Hi.out; omega)
            have CH3 := (CH2.later hb9).kept (own_later hB3 hall0.out) hg9
            rw [hbase] at CH3
            replace CH3 := CH3.perm (nine_perm _ _ _ _ _ _ _ _ _ _)
            have fin9 := FIN9.out [(a1, n + 1, c1, B ++ leL v8 1), (a2, n + 2, c2, B ++ leL v16 2), (a4, n + 4, c4, B ++ leL v32 4), (a8, n + 8, c8, B ++ leL v 8), (aw, n + 16, cw, B ++ leL lo 8 ++ leL hi 8), (ax, nx, cx, B ++ leL o 8 ++ leL lo 8 ++ leL hi 8), (aj, nj, cj, B ++ B), (ak, nk, ck, B), (ar, nr, cr, B)] rfl v9 w9
            have hB4 : Below zA u0 w9 := (hB3.mono hz0.out).grown hg9 (Nat.le_trans hz0.out hB3.size) (own_block (own_later hB3 hall0.out))
            refine wpAnyH_norm (l2 := #[true, true, true, true, true, true, true, true, true, true, true, true, true, true, true, true, true, true, true, true, true, true, true, true, true, true, true, true, true, true, false, false]) (f2 := 2) (by kernel_rfl) (by kernel_rfl) ?_
            refine wpAnyH_ready (rs := [30]) (by kernel_rfl) (by simp) ?_
            refine AllReadyH.cons rfl (fun K hK => ?_) AllReadyH.nil
            rw [if_pos (by kernel_rfl)]
            refine wp_append_known (.tmp 63) (.tmp 92) 32 rfl _ _ rfl rfl _ w9 hrun9 ?_
            refine hK.out _ _ (HX4.out _ hB4) (fun _ => ?_)
            clear hK K
            simp only [List.getElem_toArray, List.getElem_cons_succ, List.getElem_cons_zero, Act.put, List.setIfInBounds_toArray, List.set_cons_zero, List.set_cons_succ]
            refine wpAnyH_norm (l2 := #[true, true, true, true, true, true, true, true, true, true, true, true, true, true, true, true, true, true, true, true, true, true, true, true, true, true, true, true, true, true, true, false]) (f2 := 1) (by kernel_rfl) (by kernel_rfl) ?_
            refine wpAnyH_take (i := 31) (oi := _) (v := ?_) rfl (by kernel_rfl) (by kernel_rfl) (by kernel_rfl) (fun _ _ _ h => h) (Or.inl ⟨by rfl, ?_⟩) (by assumption) ?_
            rotate_left
            · (intro w hSw; go_simp; try with_reducible rfl)
            simp only [List.getElem_toArray, List.getElem_cons_succ, List.getElem_cons_zero, Act.put, List.setIfInBounds_toArray, List.set_cons_zero, List.set_cons_succ]
            refine wpAnyH_norm (l2 := #[true, true, true, true, true, true, true, true, true, true, true, true, true, true, true, true, true, true, true, true, true, true, true, true, true, true, true, true, true, true, true, true]) (f2 := 0) (by kernel_rfl) (by kernel_rfl) ?_
            refine wpAnyH_done (by kernel_rfl) ?_ _
            have HF9 := fin9 hall9 CH3 hB4
            clear hrun9 hall9 hg9 CH3 hB4 hHeld
            go_wp2
            go_roundw
            case rel => exact HF9
            case measure => simp [intOf]; omega
        simp only [List.getElem_toArray, List.getElem_cons_succ, List.getElem_cons_zero, Act.put, List.setIfInBounds_toArray, List.set_cons_zero, List.set_cons_succ] at KEY611
        refine share (Option Addr × Nat × Option Addr × Nat × Option Addr × Nat × Option Addr × Nat × Option Addr × Nat × Option Addr × Nat × Nat × Nat) 5 #[true, true, true, true, true, true, true, true, true, true, true, true, true, true, true, true, true, true, true, true, true, true, true, true, true, true, false, false, true, false, false, false] (fun a x => ((((((a.put (some 67) (.slice x.1 (n + 1) x.2.1)).put (some 71) (.slice x.2.2.1 (n + 2) x.2.2.2.1)).put (some 75) (.slice x.2.2.2.2.1 (n + 4) x.2.2.2.2.2.1)).put (some 78) (.slice x.2.2.2.2.2.2.1 (n + 8) x.2.2.2.2.2.2.2.1)).put (some 82) (.slice x.2.2.2.2.2.2.2.2.1 (n + 16) x.2.2.2.2.2.2.2.2.2.1)).put (some 87) (.slice x.2.2.2.2.2.2.2.2.2.2.1 (x.2.2.2.2.2.2.2.2.2.2.2.1) x.2.2.2.2.2.2.2.2.2.2.2.2.1)).put (some 86) (.slice (some ⟨x.2.2.2.2.2.2.2.2.2.2.2.2.2, 0, none⟩) 2 2)) (fun x u => Below u0.heap.size u0 u ∧ Chain u zA (base ++ [(x.1, n + 1, x.2.1, B ++ leL v8 1), (x.2.2.1, n + 2, x.2.2.2.1, B ++ leL v16 2), (x.2.2.2.2.1, n + 4, x.2.2.2.2.2.1, B ++ leL v32 4), (x.2.2.2.2.2.2.1, n + 8, x.2.2.2.2.2.2.2.1, B ++ leL v 8), (x.2.2.2.2.2.2.2.2.1, n + 16, x.2.2.2.2.2.2.2.2.2.1, B ++ leL lo 8 ++ leL hi 8), (x.2.2.2.2.2.2.2.2.2.2.1, x.2.2.2.2.2.2.2.2.2.2.2.1, x.2.2.2.2.2.2.2.2.2.2.2.2.1, B ++ B)]) ∧ (u.cell? ⟨x.2.2.2.2.2.2.2.2.2.2.2.2.2, 0, none⟩ = some (.slice (some ⟨gK, 0, none⟩) n cl) ∧ u.cell? ⟨x.2.2.2.2.2.2.2.2.2.2.2.2.2, 1, none⟩ = some (.slice (some ⟨gK, 0, none⟩) n cl))) ?_ (fun KEY610 => ?_)
        · intro x u hpre
          obtain ⟨a1, c1, a2, c2, a4, c4, a8, c8, aw, cw, aj, nj, cj, g23⟩ := x
          obtain ⟨hB, CH, hc23⟩ := hpre
          have hHeld := HX.out _ hB
          simp only [List.getElem_toArray, List.getElem_cons_succ, List.getElem_cons_zero, Act.put, List.setIfInBounds_toArray, List.set_cons_zero, List.set_cons_succ]
          have KRu := KR.out.later hB
          have hzu := Nat.le_trans hz0.out hB.size
          refine wpAnyH_norm (l2 := #[true, true, true, true, true, true, true, true, true, true, true, true, true, true, true, true, true, true, true, true, true, true, true, true, true, true, false, false, true, false, false, false]) (f2 := 5) (by kernel_rfl) (by kernel_rfl) ?_
          refine wpAnyH_ready (rs := [26]) (by kernel_rfl) (by simp) ?_
          refine AllReadyH.cons rfl (fun K hK => ?_) AllReadyH.nil
          · go_simp
            have hb := below1 u (Obj.cells #[.slice (some ⟨gK, 0, none⟩) n cl] 22)
            have hB2 := below_call hB hb
            refine hK.out _ _ (HX.out _ hB2) (fun _ => ?_)
            clear hK K
            simp only [List.getElem_toArray, List.getElem_cons_succ, List.getElem_cons_zero, Act.put, List.setIfInBounds_toArray, List.set_cons_zero, List.set_cons_succ]
            obtain ⟨g26, hg⟩ : ∃ g, g = u.heap.size := ⟨_, rfl⟩
            rw [← hg]
            refine wpAnyH_norm (l2 := #[true, true, true, true, true, true, true, true, true, true, true, true, true, true, true, true, true, true, true, true, true, true, true, true, true, true, true, false, true, false, false, false]) (f2 := 4) (by kernel_rfl) (by kernel_rfl) ?_
            exact KEY611.out (a1, c1, a2, c2, a4, c4, a8, c8, aw, cw, aj, nj, cj, g23, g26) _ ⟨hB2, CH.later hb, ⟨cell_later hb hc23.1, cell_later hb hc23.2⟩, by rw [hg]; simp [go_sem]⟩
        simp only [List.getElem_toArray, List.getElem_cons_succ, List.getElem_cons_zero, Act.put, List.setIfInBounds_toArray, List.set_cons_zero, List.set_cons_succ] at KEY610
        refine share (Option Addr × Nat × Option Addr × Nat × Option Addr × Nat × Option Addr × Nat × Option Addr × Nat × Nat × Nat) 5 #[true, true, true, true, true, true, true, true, true, true, true, true, true, true, true, true, true, true, true, true, true, true, true, true, false, true, true, false, true, false, false, false] (fun a x => ((((((a.put (some 67) (.slice x.1 (n + 1) x.2.1)).put (some 71) (.slice x.2.2.1 (n + 2) x.2.2.2.1)).put (some 75) (.slice x.2.2.2.2.1 (n + 4) x.2.2.2.2.2.1)).put (some 78) (.slice x.2.2.2.2.2.2.1 (n + 8) x.2.2.2.2.2.2.2.1)).put (some 82) (.slice x.2.2.2.2.2.2.2.2.1 (n + 16) x.2.2.2.2.2.2.2.2.2.1)).put (some 86) (.slice (some ⟨x.2.2.2.2.2.2.2.2.2.2.1, 0, none⟩) 2 2)).put (some 89) (.slice (some ⟨x.2.2.2.2.2.2.2.2.2.2.2, 0, none⟩) 1 1)) (fun x u => Below u0.heap.size u0 u ∧ Chain u zA (base ++ [(x.1, n + 1, x.2.1, B ++ leL v8 1), (x.2.2.1, n + 2, x.2.2.2.1, B ++ leL v16 2), (x.2.2.2.2.1, n + 4, x.2.2.2.2.2.1, B ++ leL v32 4), (x.2.2.2.2.2.2.1, n + 8, x.2.2.2.2.2.2.2.1, B ++ leL v 8), (x.2.2.2.2.2.2.2.2.1, n + 16, x.2.2.2.2.2.2.2.2.2.1, B ++ leL lo 8 ++ leL hi 8)]) ∧ (u.cell? ⟨x.2.2.2.2.2.2.2.2.2.2.1, 0, none⟩ = some (.slice (some ⟨gK, 0, none⟩) n cl) ∧ u.cell? ⟨x.2.2.2.2.2.2.2.2.2.2.1, 1, none⟩ = some (.slice (some ⟨gK, 0, none⟩) n cl)) ∧ u.cell? ⟨x.2.2.2.2.2.2.2.2.2.2.2, 0, none⟩ = some (.slice (some ⟨gK, 0, none⟩) n cl)) ?_ (fun KEY511 => ?_)
        · intro x u hpre
          obtain ⟨a1, c1, a2, c2, a4, c4, a8, c8, aw, cw, g23, g26⟩ := x
          obtain ⟨hB, CH, hc23, hc26⟩ := hpre
          have hHeld := HX.out _ hB
          simp only [List.getElem_toArray, List.getElem_cons_succ, List.getElem_cons_zero, Act.put, List.setIfInBounds_toArray, List.set_cons_zero, List.set_cons_succ]
          have KRu := KR.out.later hB
          have hzu := Nat.le_trans hz0.out hB.size
          refine wpAnyH_norm (l2 := #[true, true, true, true, true, true, true, true, true, true, true, true, true, true, true, true, true, true, true, true, true, true, true, true, false, true, true, false, true, false, false, false]) (f2 := 5) (by kernel_rfl) (by kernel_rfl) ?_
          refine wpAnyH_ready (rs := [24]) (by kernel_rfl) (by simp) ?_
          refine AllReadyH.cons rfl (fun K hK => ?_) AllReadyH.nil
          · go_simp
            go_wp2_with (first | (go_at_call 17; refine (join_any g23 2 2 [(some ⟨gK, 0, none⟩, n, cl, B), (some ⟨gK, 0, none⟩, n, cl, B)] _ rfl (by simp) (two_cells hc23) (fun r hr => (by simp at hr; subst hr; exact KRu)) (by have := HN.out; simp [cat4]; omega)).mono ?_; rintro e U ⟨aj, nj, cj, rfl, P, hb⟩))
            have hcat : cat4 [(some ⟨gK, 0, none⟩, n, cl, B), (some ⟨gK, 0, none⟩, n, cl, B)] = B ++ B := by simp [cat4]
            rw [hcat] at P
            have hB2 := below_call hB hb
            have CH2 := CH.call hb P hzu
            rw [List.append_assoc] at CH2
            refine hK.out _ _ (HX.out _ hB2) (fun _ => ?_)
            clear hK K
            simp only [List.getElem_toArray, List.getElem_cons_succ, List.getElem_cons_zero, Act.put, List.setIfInBounds_toArray, List.set_cons_zero, List.set_cons_succ]
            refine wpAnyH_norm (l2 := #[true, true, true, true, true, true, true, true, true, true, true, true, true, true, true, true, true, true, true, true, true, true, true, true, true, true, true, false, true, false, false, false]) (f2 := 4) (by kernel_rfl) (by kernel_rfl) ?_
            exact KEY611.out (a1, c1, a2, c2, a4, c4, a8, c8, aw, cw, aj, nj, cj, g23, g26) U ⟨hB2, CH2, ⟨cell_later hb hc23.1, cell_later hb hc23.2⟩, cell_later hb hc26⟩
        simp only [List.getElem_toArray, List.getElem_cons_succ, List.getElem_cons_zero, Act.put, List.setIfInBounds_toArray, List.set_cons_zero, List.set_cons_succ] at KEY511
        refine share (Option Addr × Nat × Option Addr × Nat × Option Addr × Nat × Option Addr × Nat × Option Addr × Nat × Nat) 6 #[true, true, true, true, true, true, true, true, true, true, true, true, true, true, true, true, true, true, true, true, true, true, true, false, false, true, true, false, true, false, false, false] (fun a x => (((((a.put (some 67) (.slice x.1 (n + 1) x.2.1)).put (some 71) (.slice x.2.2.1 (n + 2) x.2.2.2.1)).put (some 75) (.slice x.2.2.2.2.1 (n + 4) x.2.2.2.2.2.1)).put (some 78) (.slice x.2.2.2.2.2.2.1 (n + 8) x.2.2.2.2.2.2.2.1)).put (some 82) (.slice x.2.2.2.2.2.2.2.2.1 (n + 16) x.2.2.2.2.2.2.2.2.2.1)).put (some 89) (.slice (some ⟨x.2.2.2.2.2.2.2.2.2.2, 0, none⟩) 1 1)) (fun x u => Below u0.heap.size u0 u ∧ Chain u zA (base ++ [(x.1, n + 1, x.2.1, B ++ leL v8 1), (x.2.2.1, n + 2, x.2.2.2.1, B ++ leL v16 2), (x.2.2.2.2.1, n + 4, x.2.2.2.2.2.1, B ++ leL v32 4), (x.2.2.2.2.2.2.1, n + 8, x.2.2.2.2.2.2.2.1, B ++ leL v 8), (x.2.2.2.2.2.2.2.2.1, n + 16, x.2.2.2.2.2.2.2.2.2.1, B ++ leL lo 8 ++ leL hi 8)]) ∧ u.cell? ⟨x.2.2.2.2.2.2.2.2.2.2, 0, none⟩ = some (.slice (some ⟨gK, 0, none⟩) n cl)) ?_ (fun KEY501 => ?_)
        · intro x u hpre
          obtain ⟨a1, c1, a2, c2, a4, c4, a8, c8, aw, cw, g26⟩ := x
          obtain ⟨hB, CH, hc26⟩ := hpre
          have hHeld := HX.out _ hB
          simp only [List.getElem_toArray, List.getElem_cons_succ, List.getElem_cons_zero, Act.put, List.setIfInBounds_toArray, List.set_cons_zero, List.set_cons_succ]
          have KRu := KR.out.later hB
          have hzu := Nat.le_trans hz0.out hB.size
          refine wpAnyH_norm (l2 := #[true, true, true, true, true, true, true, true, true, true, true, true, true, true, true, true, true, true, true, true, true, true, true, false, false, true, true, false, true, false, false, false]) (f2 := 6) (by kernel_rfl) (by kernel_rfl) ?_
          refine wpAnyH_ready (rs := [23]) (by kernel_rfl) (by simp) ?_
          refine AllReadyH.cons rfl (fun K hK => ?_) AllReadyH.nil
          · go_simp
            have hb := below1 u (Obj.cells #[.slice (some ⟨gK, 0, none⟩) n cl, .slice (some ⟨gK, 0, none⟩) n cl] 22)
            have hB2 := below_call hB hb
            refine hK.out _ _ (HX.out _ hB2) (fun _ => ?_)
            clear hK K
            simp only [List.getElem_toArray, List.getElem_cons_succ, List.getElem_cons_zero, Act.put, List.setIfInBounds_toArray, List.set_cons_zero, List.set_cons_succ]
            obtain ⟨g23, hg⟩ : ∃ g, g = u.heap.size := ⟨_, rfl⟩
            rw [← hg]
            refine wpAnyH_norm (l2 := #[true, true, true, true, true, true, true, true, true, true, true, true, true, true, true, true, true, true, true, true, true, true, true, true, false, true, true, false, true, false, false, false]) (f2 := 5) (by kernel_rfl) (by kernel_rfl) ?_
            exact KEY511.out (a1, c1, a2, c2, a4, c4, a8, c8, aw, cw, g23, g26) _ ⟨hB2, CH.later hb, ⟨by rw [hg]; simp [go_sem], by rw [hg]; simp [go_sem]⟩, cell_later hb hc26⟩
        simp only [List.getElem_toArray, List.getElem_cons_succ, List.getElem_cons_zero, Act.put, List.setIfInBounds_toArray, List.set_cons_zero, List.set_cons_succ] at KEY501
        refine share (Option Addr × Nat × Option Addr × Nat × Option Addr × Nat × Option Addr × Nat × Option Addr × Nat × Nat) 6 #[true, true, true, true, true, true, true, true, true, true, true, true, true, true, true, true, true, true, true, true, true, true, true, true, false, true, false, false, true, false, false, false] (fun a x => (((((a.put (some 67) (.slice x.1 (n + 1) x.2.1)).put (some 71) (.slice x.2.2.1 (n + 2) x.2.2.2.1)).put (some 75) (.slice x.2.2.2.2.1 (n + 4) x.2.2.2.2.2.1)).put (some 78) (.slice x.2.2.2.2.2.2.1 (n + 8) x.2.2.2.2.2.2.2.1)).put (some 82) (.slice x.2.2.2.2.2.2.2.2.1 (n + 16) x.2.2.2.2.2.2.2.2.2.1)).put (some 86) (.slice (some ⟨x.2.2.2.2.2.2.2.2.2.2, 0, none⟩) 2 2)) (fun x u => Below u0.heap.size u0 u ∧ Chain u zA (base ++ [(x.1, n + 1, x.2.1, B ++ leL v8 1), (x.2.2.1, n + 2, x.2.2.2.1, B ++ leL v16 2), (x.2.2.2.2.1, n + 4, x.2.2.2.2.2.1, B ++ leL v32 4), (x.2.2.2.2.2.2.1, n + 8, x.2.2.2.2.2.2.2.1, B ++ leL v 8), (x.2.2.2.2.2.2.2.2.1, n + 16, x.2.2.2.2.2.2.2.2.2.1, B ++ leL lo 8 ++ leL hi 8)]) ∧ (u.cell? ⟨x.2.2.2.2.2.2.2.2.2.2, 0, none⟩ = some (.slice (some ⟨gK, 0, none⟩) n cl) ∧ u.cell? ⟨x.2.2.2.2.2.2.2.2.2.2, 1, none⟩ = some (.slice (some ⟨gK, 0, none⟩) n cl))) ?_ (fun KEY510 => ?_)
        · intro x u hpre
          obtain ⟨a1, c1, a2, c2, a4, c4, a8, c8, aw, cw, g23⟩ := x
          obtain ⟨hB, CH, hc23⟩ := hpre
          have hHeld := HX.out _ hB
          simp only [List.getElem_toArray, List.getElem_cons_succ, List.getElem_cons_zero, Act.put, List.setIfInBounds_toArray, List.set_cons_zero, List.set_cons_succ]
          have KRu := KR.out.later hB
          have hzu := Nat.le_trans hz0.out hB.size
          refine wpAnyH_norm (l2 := #[true, true, true, true, true, true, true, true, true, true, true, true, true, true, true, true, true, true, true, true, true, true, true, true, false, true, false, false, true, false, false, false]) (f2 := 6) (by kernel_rfl) (by kernel_rfl) ?_
          refine wpAnyH_ready (rs := [24, 26]) (by kernel_rfl) (by simp) ?_
          refine AllReadyH.cons rfl (fun K hK => ?_) (AllReadyH.cons rfl (fun K hK => ?_) AllReadyH.nil)
          · go_simp
            go_wp2_with (first | (go_at_call 17; refine (join_any g23 2 2 [(some ⟨gK, 0, none⟩, n, cl, B), (some ⟨gK, 0, none⟩, n, cl, B)] _ rfl (by simp) (two_cells hc23) (fun r hr => (by simp at hr; subst hr; exact KRu)) (by have := HN.out; simp [cat4]; omega)).mono ?_; rintro e U ⟨aj, nj, cj, rfl, P, hb⟩))
            have hcat : cat4 [(some ⟨gK, 0, none⟩, n, cl, B), (some ⟨gK, 0, none⟩, n, cl, B)] = B ++ B := by simp [cat4]
            rw [hcat] at P
            have hB2 := below_call hB hb
            have CH2 := CH.call hb P hzu
            rw [List.append_assoc] at CH2
            refine hK.out _ _ (HX.out _ hB2) (fun _ => ?_)
            clear hK K
            simp only [List.getElem_toArray, List.getElem_cons_succ, List.getElem_cons_zero, Act.put, List.setIfInBounds_toArray, List.set_cons_zero, List.set_cons_succ]
            refine wpAnyH_norm (l2 := #[true, true, true, true, true, true, true, true, true, true, true, true, true, true, true, true, true, true, true, true, true, true, true, true, true, true, false, false, true, false, false, false]) (f2 := 5) (by kernel_rfl) (by kernel_rfl) ?_
            exact KEY610.out (a1, c1, a2, c2, a4, c4, a8, c8, aw, cw, aj, nj, cj, g23) U ⟨hB2, CH2, ⟨cell_later hb hc23.1, cell_later hb hc23.2⟩⟩
          · go_simp
            have hb := below1 u (Obj.cells #[.slice (some ⟨gK, 0, none⟩) n cl] 22)
            have hB2 := below_call hB hb
            refine hK.out _ _ (HX.out _ hB2) (fun _ => ?_)
            clear hK K
            simp only [List.getElem_toArray, List.getElem_cons_succ, List.getElem_cons_zero, Act.put, List.setIfInBounds_toArray, List.set_cons_zero, List.set_cons_succ]
            obtain ⟨g26, hg⟩ : ∃ g, g = u.heap.size := ⟨_, rfl⟩
            rw [← hg]
            refine wpAnyH_norm (l2 := #[true, true, true, true, true, true, true, true, true, true, true, true, true, true, true, true, true, true, true, true, true, true, true, true, false, true, true, false, true, false, false, false]) (f2 := 5) (by kernel_rfl) (by kernel_rfl) ?_
            exact KEY511.out (a1, c1, a2, c2, a4, c4, a8, c8, aw, cw, g23, g26) _ ⟨hB2, CH.later hb, ⟨cell_later hb hc23.1, cell_later hb hc23.2⟩, by rw [hg]; simp [go_sem]⟩
        simp only [List.getElem_toArray, List.getElem_cons_succ, List.getElem_cons_zero, Act.put, List.setIfInBounds_toArray, List.set_cons_zero, List.set_cons_succ] at KEY510
        refine share (Option Addr × Nat × Option Addr × Nat × Option Addr × Nat × Option Addr × Nat × Option Addr × Nat) 7 #[true, true, true, true, true, true, true, true, true, true, true, true, true, true, true, true, true, true, true, true, true, true, true, false, false, true, false, false, true, false, false, false] (fun a x => ((((a.put (some 67) (.slice x.1 (n + 1) x.2.1)).put (some 71) (.slice x.2.2.1 (n + 2) x.2.2.2.1)).put (some 75) (.slice x.2.2.2.2.1 (n + 4) x.2.2.2.2.2.1)).put (some 78) (.slice x.2.2.2.2.2.2.1 (n + 8) x.2.2.2.2.2.2.2.1)).put (some 82) (.slice x.2.2.2.2.2.2.2.2.1 (n + 16) x.2.2.2.2.2.2.2.2.2)) (fun x u => Below u0.heap.size u0 u ∧ Chain u zA (base ++ [(x.1, n + 1, x.2.1, B ++ leL v8 1), (x.2.2.1, n + 2, x.2.2.2.1, B ++ leL v16 2), (x.2.2.2.2.1, n + 4, x.2.2.2.2.2.1, B ++ leL v32 4), (x.2.2.2.2.2.2.1, n + 8, x.2.2.2.2.2.2.2.1, B ++ leL v 8), (x.2.2.2.2.2.2.2.2.1, n + 16, x.2.2.2.2.2.2.2.2.2, B ++ leL lo 8 ++ leL hi 8)])) ?_ (fun KEY500 => ?_)
        · intro x u hpre
          obtain ⟨a1, c1, a2, c2, a4, c4, a8, c8, aw, cw⟩ := x
          obtain ⟨hB, CH⟩ := hpre
          have hHeld := HX.out _ hB
          simp only [List.getElem_toArray, List.getElem_cons_succ, List.getElem_cons_zero, Act.put, List.setIfInBounds_toArray, List.set_cons_zero, List.set_cons_succ]
          have KRu := KR.out.later hB
          have hzu := Nat.le_trans hz0.out hB.size
          refine wpAnyH_norm (l2 := #[true, true, true, true, true, true, true, true, true, true, true, true, true, true, true, true, true, true, true, true, true, true, true, false, false, true, false, false, true, false, false, false]) (f2 := 7) (by kernel_rfl) (by kernel_rfl) ?_
          refine wpAnyH_ready (rs := [23, 26]) (by kernel_rfl) (by simp) ?_
          refine AllReadyH.cons rfl (fun K hK => ?_) (AllReadyH.cons rfl (fun K hK => ?_) AllReadyH.nil)
          · go_simp
            have hb := below1 u (Obj.cells #[.slice (some ⟨gK, 0, none⟩) n cl, .slice (some ⟨gK, 0, none⟩) n cl] 22)
            have hB2 := below_call hB hb
            refine hK.out _ _ (HX.out _ hB2) (fun _ => ?_)
            clear hK K
            simp only [List.getElem_toArray, List.getElem_cons_succ, List.getElem_cons_zero, Act.put, List.setIfInBounds_toArray, List.set_cons_zero, List.set_cons_succ]
            obtain ⟨g23, hg⟩ : ∃ g, g = u.heap.size := ⟨_, rfl⟩
            rw [← hg]
            refine wpAnyH_norm (l2 := #[true, true, true, true, true, true, true, true, true, true, true, true, true, true, true, true, true, true, true, true, true, true, true, true, false, true, false, false, true, false, false, false]) (f2 := 6) (by kernel_rfl) (by kernel_rfl) ?_
            exact KEY510.out (a1, c1, a2, c2, a4, c4, a8, c8, aw, cw, g23) _ ⟨hB2, CH.later hb, ⟨by rw [hg]; simp [go_sem], by rw [hg]; simp [go_sem]⟩⟩
          · go_simp
            have hb := below1 u (Obj.cells #[.slice (some ⟨gK, 0, none⟩) n cl] 22)
            have hB2 := below_call hB hb
            refine hK.out _ _ (HX.out _ hB2) (fun _ => ?_)
            clear hK K
            simp only [List.getElem_toArray, List.getElem_cons_succ, List.getElem_cons_zero, Act.put, List.setIfInBounds_toArray, List.set_cons_zero, List.set_cons_succ]
            obtain ⟨g26, hg⟩ : ∃ g, g = u.heap.size := ⟨_, rfl⟩
            rw [← hg]
            refine wpAnyH_norm (l2 := #[true, true, true, true, true, true, true, true, true, true, true, true, true, true, true, true, true, true, true, true, true, true, true, false, false, true, true, false, true, false, false, false]) (f2 := 6) (by kernel_rfl) (by kernel_rfl) ?_
            exact KEY501.out (a1, c1, a2, c2, a4, c4, a8, c8, aw, cw, g26) _ ⟨hB2, CH.later hb, by rw [hg]; simp [go_sem]⟩
        simp only [List.getElem_toArray, List.getElem_cons_succ, List.getElem_cons_zero, Act.put, List.setIfInBounds_toArray, List.set_cons_zero, List.set_cons_succ] at KEY500
        refine share (Option Addr × Nat × Option Addr × Nat × Option Addr × Nat × Option Addr × Nat × Nat × Nat) 6 #[true, true, true, true, true, true, true, true, true, true, true, true, true, true, true, true, true, true, true, false, true, true, true, true, false, true, true, false, true, false, false, false] (fun a x => (((((a.put (some 67) (.slice x.1 (n + 1) x.2.1)).put (some 71) (.slice x.2.2.1 (n + 2) x.2.2.2.1)).put (some 75) (.slice x.2.2.2.2.1 (n + 4) x.2.2.2.2.2.1)).put (some 78) (.slice x.2.2.2.2.2.2.1 (n + 8) x.2.2.2.2.2.2.2.1)).put (some 86) (.slice (some ⟨x.2.2.2.2.2.2.2.2.1, 0, none⟩) 2 2)).put (some 89) (.slice (some ⟨x.2.2.2.2.2.2.2.2.2, 0, none⟩) 1 1)) (fun x u => Below u0.heap.size u0 u ∧ Chain u zA (base ++ [(x.1, n + 1, x.2.1, B ++ leL v8 1), (x.2.2.1, n + 2, x.2.2.2.1, B ++ leL v16 2), (x.2.2.2.2.1, n + 4, x.2.2.2.2.2.1, B ++ leL v32 4), (x.2.2.2.2.2.2.1, n + 8, x.2.2.2.2.2.2.2.1, B ++ leL v 8)]) ∧ (u.cell? ⟨x.2.2.2.2.2.2.2.2.1, 0, none⟩ = some (.slice (some ⟨gK, 0, none⟩) n cl) ∧ u.cell? ⟨x.2.2.2.2.2.2.2.2.1, 1, none⟩ = some (.slice (some ⟨gK, 0, none⟩) n cl)) ∧ u.cell? ⟨x.2.2.2.2.2.2.2.2.2, 0, none⟩ = some (.slice (some ⟨gK, 0, none⟩) n cl)) ?_ (fun KEY411 => ?_)
        · intro x u hpre
          obtain ⟨a1, c1, a2, c2, a4, c4, a8, c8, g23, g26⟩ := x
          obtain ⟨hB, CH, hc23, hc26⟩ := hpre
          have hHeld := HX.out _ hB
          simp only [List.getElem_toArray, List.getElem_cons_succ, List.getElem_cons_zero, Act.put, List.setIfInBounds_toArray, List.set_cons_zero, List.set_cons_succ]
          have KRu := KR.out.later hB
          have hzu := Nat.le_trans hz0.out hB.size
          refine wpAnyH_norm (l2 := #[true, true, true, true, true, true, true, true, true, true, true, true, true, true, true, true, true, true, true, false, true, true, true, true, false, true, true, false, true, false, false, false]) (f2 := 6) (by kernel_rfl) (by kernel_rfl) ?_
          refine wpAnyH_ready (rs := [19]) (by kernel_rfl) (by simp) ?_
          refine AllReadyH.cons rfl (fun K hK => ?_) AllReadyH.nil
          · go_simp
            go_wp2_with (first | (go_at_call 16; refine (putWord_any _ _ _ B hi lo _ hhi hlo KRu (by have := HN.out; omega)).mono ?_; rintro e U ⟨aw, cw, rfl, P, hb⟩))
            have hB2 := below_call hB hb
            have CH2 := CH.call hb P hzu
            rw [List.append_assoc] at CH2
            refine hK.out _ _ (HX.out _ hB2) (fun _ => ?_)
            clear hK K
            simp only [List.getElem_toArray, List.getElem_cons_succ, List.getElem_cons_zero, Act.put, List.setIfInBounds_toArray, List.set_cons_zero, List.set_cons_succ]
            refine wpAnyH_norm (l2 := #[true, true, true, true, true, true, true, true, true, true, true, true, true, true, true, true, true, true, true, true, true, true, true, true, false, true, true, false, true, false, false, false]) (f2 := 5) (by kernel_rfl) (by kernel_rfl) ?_
            exact KEY511.out (a1, c1, a2, c2, a4, c4, a8, c8, aw, cw, g23, g26) U ⟨hB2, CH2, ⟨cell_later hb hc23.1, cell_later hb hc23.2⟩, cell_later hb hc26⟩
        simp only [List.getElem_toArray, List.getElem_cons_succ, List.getElem_cons_zero, Act.put, List.setIfInBounds_toArray, List.set_cons_zero, List.set_cons_succ] at KEY411
        refine share (Option Addr × Nat × Option Addr × Nat × Option Addr × Nat × Option Addr × Nat × Nat) 7 #[true, true, true, true, true, true, true, true, true, true, true, true, true, true, true, true, true, true, true, false, true, true, true, false, false, true, true, false, true, false, false, false] (fun a x => ((((a.put (some 67) (.slice x.1 (n + 1) x.2.1)).put (some 71) (.slice x.2.2.1 (n + 2) x.2.2.2.1)).put (some 75) (.slice x.2.2.2.2.1 (n + 4) x.2.2.2.2.2.1)).put (some 78) (.slice x.2.2.2.2.2.2.1 (n + 8) x.2.2.2.2.2.2.2.1)).put (some 89) (.slice (some ⟨x.2.2.2.2.2.2.2.2, 0, none⟩) 1 1)) (fun x u => Below u0.heap.size u0 u ∧ Chain u zA (base ++ [(x.1, n + 1, x.2.1, B ++ leL v8 1), (x.2.2.1, n + 2, x.2.2.2.1, B ++ leL v16 2), (x.2.2.2.2.1, n + 4, x.2.2.2.2.2.1, B ++ leL v32 4), (x.2.2.2.2.2.2.1, n + 8, x.2.2.2.2.2.2.2.1, B ++ leL v 8)]) ∧ u.cell? ⟨x.2.2.2.2.2.2.2.2, 0, none⟩ = some (.slice (some ⟨gK, 0, none⟩) n cl)) ?_ (fun KEY401 => ?_)
        · intro x u hpre
          obtain ⟨a1, c1, a2, c2, a4, c4, a8, c8, g26⟩ := x
          obtain ⟨hB, CH, hc26⟩ := hpre
          have hHeld := HX.out _ hB
          simp only [List.getElem_toArray, List.getElem_cons_succ, List.getElem_cons_zero, Act.put, List.setIfInBounds_toArray, List.set_cons_zero, List.set_cons_succ]
          have KRu := KR.out.later hB
          have hzu := Nat.le_trans hz0.out hB.size
          refine wpAnyH_norm (l2 := #[true, true, true, true, true, true, true, true, true, true, true, true, true, true, true, true, true, true, true, false, true, true, true, false, false, true, true, false, true, false, false, false]) (f2 := 7) (by kernel_rfl) (by kernel_rfl) ?_
          refine wpAnyH_ready (rs := [19, 23]) (by kernel_rfl) (by simp) ?_
          refine AllReadyH.cons rfl (fun K hK => ?_) (AllReadyH.cons rfl (fun K hK => ?_) AllReadyH.nil)
          · go_simp
            go_wp2_with (first | (go_at_call 16; refine (putWord_any _ _ _ B hi lo _ hhi hlo KRu (by have := HN.out; omega)).mono ?_; rintro e U ⟨aw, cw, rfl, P, hb⟩))
            have hB2 := below_call hB hb
            have CH2 := CH.call hb P hzu
            rw [List.append_assoc] at CH2
            refine hK.out _ _ (HX.out _ hB2) (fun _ => ?_)
            clear hK K
            simp only [List.getElem_toArray, List.getElem_cons_succ, List.getElem_cons_zero, Act.put, List.setIfInBounds_toArray, List.set_cons_zero, List.set_cons_succ]
            refine wpAnyH_norm (l2 := #[true, true, true, true, true, true, true, true, true, true, true, true, true, true, true, true, true, true, true, true, true, true, true, false, false, true, true, false, true, false, false, false]) (f2 := 6) (by kernel_rfl) (by kernel_rfl) ?_
            exact KEY501.out (a1, c1, a2, c2, a4, c4, a8, c8, aw, cw, g26) U ⟨hB2, CH2, cell_later hb hc26⟩
          · go_simp
            have hb := below1 u (Obj.cells #[.slice (some ⟨gK, 0, none⟩) n cl, .slice (some ⟨gK, 0, none⟩) n cl] 22)
            have hB2 := below_call hB hb
            refine hK.out _ _ (HX.out _ hB2) (fun _ => ?_)
            clear hK K
            simp only [List.getElem_toArray, List.getElem_cons_succ, List.getElem_cons_zero, Act.put, List.setIfInBounds_toArray, List.set_cons_zero, List.set_cons_succ]
            obtain ⟨g23, hg⟩ : ∃ g, g = u.heap.size := ⟨_, rfl⟩
            rw [← hg]
            refine wpAnyH_norm (l2 := #[true, true, true, true, true, true, true, true, true, true, true, true, true, true, true, true, true, true, true, false, true, true, true, true, false, true, true, false, true, false, false, false]) (f2 := 6) (by kernel_rfl) (by kernel_rfl) ?_
            exact KEY411.out (a1, c1, a2, c2, a4, c4, a8, c8, g23, g26) _ ⟨hB2, CH.later hb, ⟨by rw [hg]; simp [go_sem], by rw [hg]; simp [go_sem]⟩, cell_later hb hc26⟩
        simp only [List.getElem_toArray, List.getElem_cons_succ, List.getElem_cons_zero, Act.put, List.setIfInBounds_toArray, List.set_cons_zero, List.set_cons_succ] at KEY401
        refine share (Option Addr × Nat × Option Addr × Nat × Option Addr × Nat × Option Addr × Nat × Nat) 7 #[true, true, true, true, true, true, true, true, true, true, true, true, true, true, true, true, true, true, true, false, true, true, true, true, false, true, false, false, true, false, false, false] (fun a x => ((((a.put (some 67) (.slice x.1 (n + 1) x.2.1)).put (some 71) (.slice x.2.2.1 (n + 2) x.2.2.2.1)).put (some 75) (.slice x.2.2.2.2.1 (n + 4) x.2.2.2.2.2.1)).put (some 78) (.slice x.2.2.2.2.2.2.1 (n + 8) x.2.2.2.2.2.2.2.1)).put (some 86) (.slice (some ⟨x.2.2.2.2.2.2.2.2, 0, none⟩) 2 2)) (fun x u => Below u0.heap.size u0 u ∧ Chain u zA (base ++ [(x.1, n + 1, x.2.1, B ++ leL v8 1), (x.2.2.1, n + 2, x.2.2.2.1, B ++ leL v16 2), (x.2.2.2.2.1, n + 4, x.2.2.2.2.2.1, B ++ leL v32 4), (x.2.2.2.2.2.2.1, n + 8, x.2.2.2.2.2.2.2.1, B ++ leL v 8)]) ∧ (u.cell? ⟨x.2.2.2.2.2.2.2.2, 0, none⟩ = some (.slice (some ⟨gK, 0, none⟩) n cl) ∧ u.cell? ⟨x.2.2.2.2.2.2.2.2, 1, none⟩ = some (.slice (some ⟨gK, 0, none⟩) n cl))) ?_ (fun KEY410 => ?_)
        · intro x u hpre
          obtain ⟨a1, c1, a2, c2, a4, c4, a8, c8, g23⟩ := x
          obtain ⟨hB, CH, hc23⟩ := hpre
          have hHeld := HX.out _ hB
          simp only [List.getElem_toArray, List.getElem_cons_succ, List.getElem_cons_zero, Act.put, List.setIfInBounds_toArray, List.set_cons_zero, List.set_cons_succ]
          have KRu := KR.out.later hB
          have hzu := Nat.le_trans hz0.out hB.size
          refine wpAnyH_norm (l2 := #[true, true, true, true, true, true, true, true, true, true, true, true, true, true, true, true, true, true, true, false, true, true, true, true, false, true, false, false, true, false, false, false]) (f2 := 7) (by kernel_rfl) (by kernel_rfl) ?_
          refine wpAnyH_ready (rs := [19, 26]) (by kernel_rfl) (by simp) ?_
          refine AllReadyH.cons rfl (fun K hK => ?_) (AllReadyH.cons rfl (fun K hK => ?_) AllReadyH.nil)
          · go_simp
            go_wp2_with (first | (go_at_call 16; refine (putWord_any _ _ _ B hi lo _ hhi hlo KRu (by have := HN.out; omega)).mono ?_; rintro e U ⟨aw, cw, rfl, P, hb⟩))
            have hB2 := below_call hB hb
            have CH2 := CH.call hb P hzu
            rw [List.append_assoc] at CH2
            refine hK.out _ _ (HX.out _ hB2) (fun _ => ?_)
            clear hK K
            simp only [List.getElem_toArray, List.getElem_cons_succ, List.getElem_cons_zero, Act.put, List.setIfInBounds_toArray, List.set_cons_zero, List.set_cons_succ]
            refine wpAnyH_norm (l2 := #[true, true, true, true, true, true, true, true, true, true, true, true, true, true, true, true, true, true, true, true, true, true, true, true, false, true, false, false, true, false, false, false]) (f2 := 6) (by kernel_rfl) (by kernel_rfl) ?_
            exact KEY510.out (a1, c1, a2, c2, a4, c4, a8, c8, aw, cw, g23) U ⟨hB2, CH2, ⟨cell_later hb hc23.1, cell_later hb hc23.2⟩⟩
          · go_simp
            have hb := below1 u (Obj.cells #[.slice (some ⟨gK, 0, none⟩) n cl] 22)
            have hB2 := below_call hB hb
            refine hK.out _ _ (HX.out _ hB2) (fun _ => ?_)
            clear hK K
            simp only [List.getElem_toArray, List.getElem_cons_succ, List.getElem_cons_zero, Act.put, List.setIfInBounds_toArray, List.set_cons_zero, List.set_cons_succ]
            obtain ⟨g26, hg⟩ : ∃ g, g = u.heap.size := ⟨_, rfl⟩
            rw [← hg]
            refine wpAnyH_norm (l2 := #[true, true, true, true, true, true, true, true, true, true, true, true, true, true, true, true, true, true, true, false, true, true, true, true, false, true, true, false, true, false, false, false]) (f2 := 6) (by kernel_rfl) (by kernel_rfl) ?_
            exact KEY411.out (a1, c1, a2, c2, a4, c4, a8, c8, g23, g26) _ ⟨hB2, CH.later hb, ⟨cell_later hb hc23.1, cell_later hb hc23.2⟩, by rw [hg]; simp [go_sem]⟩
        simp only [List.getElem_toArray, List.getElem_cons_succ, List.getElem_cons_zero, Act.put, List.setIfInBounds_toArray, List.set_cons_zero, List.set_cons_succ] at KEY410
        refine share (Option Addr × Nat × Option Addr × Nat × Option Addr × Nat × Option Addr × Nat) 8 #[true, true, true, true, true, true, true, true, true, true, true, true, true, true, true, true, true, true, true, false, true, true, true, false, false, true, false, false, true, false, false, false] (fun a x => (((a.put (some 67) (.slice x.1 (n + 1) x.2.1)).put (some 71) (.slice x.2.2.1 (n + 2) x.2.2.2.1)).put (some 75) (.slice x.2.2.2.2.1 (n + 4) x.2.2.2.2.2.1)).put (some 78) (.slice x.2.2.2.2.2.2.1 (n + 8) x.2.2.2.2.2.2.2)) (fun x u => Below u0.heap.size u0 u ∧ Chain u zA (base ++ [(x.1, n + 1, x.2.1, B ++ leL v8 1), (x.2.2.1, n + 2, x.2.2.2.1, B ++ leL v16 2), (x.2.2.2.2.1, n + 4, x.2.2.2.2.2.1, B ++ leL v32 4), (x.2.2.2.2.2.2.1, n + 8, x.2.2.2.2.2.2.2, B ++ leL v 8)])) ?_ (fun KEY400 => ?_)
        · intro x u hpre
          obtain ⟨a1, c1, a2, c2, a4, c4, a8, c8⟩ := x
          obtain ⟨hB, CH⟩ := hpre
          have hHeld := HX.out _ hB
          simp only [List.getElem_toArray, List.getElem_cons_succ, List.getElem_cons_zero, Act.put, List.setIfInBounds_toArray, List.set_cons_zero, List.set_cons_succ]
          have KRu := KR.out.later hB
          have hzu := Nat.le_trans hz0.out hB.size
          refine wpAnyH_norm (l2 := #[true, true, true, true, true, true, true, true, true, true, true, true, true, true, true, true, true, true, true, false, true, true, true, false, false, true, false, false, true, false, false, false]) (f2 := 8) (by kernel_rfl) (by kernel_rfl) ?_
          refine wpAnyH_ready (rs := [19, 23, 26]) (by kernel_rfl) (by simp) ?_
          refine AllReadyH.cons rfl (fun K hK => ?_) (AllReadyH.cons rfl (fun K hK => ?_) (AllReadyH.cons rfl (fun K hK => ?_) AllReadyH.nil))
          · go_simp
            go_wp2_with (first | (go_at_call 16; refine (putWord_any _ _ _ B hi lo _ hhi hlo KRu (by have := HN.out; omega)).mono ?_; rintro e U ⟨aw, cw, rfl, P, hb⟩))
            have hB2 := below_call hB hb
            have CH2 := CH.call hb P hzu
            rw [List.append_assoc] at CH2
            refine hK.out _ _ (HX.out _ hB2) (fun _ => ?_)
            clear hK K
            simp only [List.getElem_toArray, List.getElem_cons_succ, List.getElem_cons_zero, Act.put, List.setIfInBounds_toArray, List.set_cons_zero, List.set_cons_succ]
            refine wpAnyH_norm (l2 := #[true, true, true, true, true, true, true, true, true, true, true, true, true, true, true, true, true, true, true, true, true, true, true, false, false, true, false, false, true, false, false, false]) (f2 := 7) (by kernel_rfl) (by kernel_rfl) ?_
            exact KEY500.out (a1, c1, a2, c2, a4, c4, a8, c8, aw, cw) U ⟨hB2, CH2⟩
          · go_simp
            have hb := below1 u (Obj.cells #[.slice (some ⟨gK, 0, none⟩) n cl, .slice (some ⟨gK, 0, none⟩) n cl] 22)
            have hB2 := below_call hB hb
            refine hK.out _ _ (HX.out _ hB2) (fun _ => ?_)
            clear hK K
            simp only [List.getElem_toArray, List.getElem_cons_succ, List.getElem_cons_zero, Act.put, List.setIfInBounds_toArray, List.set_cons_zero, List.set_cons_succ]
            obtain ⟨g23, hg⟩ : ∃ g, g = u.heap.size := ⟨_, rfl⟩
            rw [← hg]
            refine wpAnyH_norm (l2 := #[true, true, true, true, true, true, true, true, true, true, true, true, true, true, true, true, true, true, true, false, true, true, true, true, false, true, false, false, true, false, false, false]) (f2 := 7) (by kernel_rfl) (by kernel_rfl) ?_
            exact KEY410.out (a1, c1, a2, c2, a4, c4, a8, c8, g23) _ ⟨hB2, CH.later hb, ⟨by rw [hg]; simp [go_sem], by rw [hg]; simp [go_sem]⟩⟩
          · go_simp
            have hb := below1 u (Obj.cells #[.slice (some ⟨gK, 0, none⟩) n cl] 22)
            have hB2 := below_call hB hb
            refine hK.out _ _ (HX.out _ hB2) (fun _ => ?_)
            clear hK K
            simp only [List.getElem_toArray, List.getElem_cons_succ, List.getElem_cons_zero, Act.put, List.setIfInBounds_toArray, List.set_cons_zero, List.set_cons_succ]
            obtain ⟨g26, hg⟩ : ∃ g, g = u.heap.size := ⟨_, rfl⟩
            rw [← hg]
            refine wpAnyH_norm (l2 := #[true, true, true, true, true, true, true, true, true, true, true, true, true, true, true, true, true, true, true, false, true, true, true, false, false, true, true, false, true, false, false, false]) (f2 := 7) (by kernel_rfl) (by kernel_rfl) ?_
            exact KEY401.out (a1, c1, a2, c2, a4, c4, a8, c8, g26) _ ⟨hB2, CH.later hb, by rw [hg]; simp [go_sem]⟩
        simp only [List.getElem_toArray, List.getElem_cons_succ, List.getElem_cons_zero, Act.put, List.setIfInBounds_toArray, List.set_cons_zero, List.set_cons_succ] at KEY400
        refine share (Option Addr × Nat × Option Addr × Nat × Option Addr × Nat × Nat × Nat) 7 #[true, true, true, true, true, true, true, true, true, true, true, true, true, true, true, false, true, true, true, false, true, true, true, true, false, true, true, false, true, false, false, false] (fun a x => ((((a.put (some 67) (.slice x.1 (n + 1) x.2.1)).put (some 71) (.slice x.2.2.1 (n + 2) x.2.2.2.1)).put (some 75) (.slice x.2.2.2.2.1 (n + 4) x.2.2.2.2.2.1)).put (some 86) (.slice (some ⟨x.2.2.2.2.2.2.1, 0, none⟩) 2 2)).put (some 89) (.slice (some ⟨x.2.2.2.2.2.2.2, 0, none⟩) 1 1)) (fun x u => Below u0.heap.size u0 u ∧ Chain u zA (base ++ [(x.1, n + 1, x.2.1, B ++ leL v8 1), (x.2.2.1, n + 2, x.2.2.2.1, B ++ leL v16 2), (x.2.2.2.2.1, n + 4, x.2.2.2.2.2.1, B ++ leL v32 4)]) ∧ (u.cell? ⟨x.2.2.2.2.2.2.1, 0, none⟩ = some (.slice (some ⟨gK, 0, none⟩) n cl) ∧ u.cell? ⟨x.2.2.2.2.2.2.1, 1, none⟩ = some (.slice (some ⟨gK, 0, none⟩) n cl)) ∧ u.cell? ⟨x.2.2.2.2.2.2.2, 0, none⟩ = some (.slice (some ⟨gK, 0, none⟩) n cl)) ?_ (fun KEY311 => ?_)
        · intro x u hpre
          obtain ⟨a1, c1, a2, c2, a4, c4, g23, g26⟩ := x
          obtain ⟨hB, CH, hc23, hc26⟩ := hpre
          have hHeld := HX.out _ hB
          simp only [List.getElem_toArray, List.getElem_cons_succ, List.getElem_cons_zero, Act.put, List.setIfInBounds_toArray, List.set_cons_zero, List.set_cons_succ]
          have KRu := KR.out.later hB
          have hzu := Nat.le_trans hz0.out hB.size
          refine wpAnyH_norm (l2 := #[true, true, true, true, true, true, true, true, true, true, true, true, true, true, true, false, true, true, true, false, true, true, true, true, false, true, true, false, true, false, false, false]) (f2 := 7) (by kernel_rfl) (by kernel_rfl) ?_
          refine wpAnyH_ready (rs := [15]) (by kernel_rfl) (by simp) ?_
          refine AllReadyH.cons rfl (fun K hK => ?_) AllReadyH.nil
          · go_simp
            go_wp2_with (first | (go_at_call 15; refine (put64 _ _ _ B v _ hv KRu (by have := HN.out; omega)).mono ?_; rintro e U ⟨a8, c8, rfl, P, hb⟩))
            have hB2 := below_call hB hb
            have CH2 := CH.call hb P hzu
            rw [List.append_assoc] at CH2
            refine hK.out _ _ (HX.out _ hB2) (fun _ => ?_)
            clear hK K
            simp only [List.getElem_toArray, List.getElem_cons_succ, List.getElem_cons_zero, Act.put, List.setIfInBounds_toArray, List.set_cons_zero, List.set_cons_succ]
            refine wpAnyH_norm (l2 := #[true, true, true, true, true, true, true, true, true, true, true, true, true, true, true, true, true, true, true, false, true, true, true, true, false, true, true, false, true, false, false, false]) (f2 := 6) (by kernel_rfl) (by kernel_rfl) ?_
            exact KEY411.out (a1, c1, a2, c2, a4, c4, a8, c8, g23, g26) U ⟨hB2, CH2, ⟨cell_later hb hc23.1, cell_later hb hc23.2⟩, cell_later hb hc26⟩
        simp only [List.getElem_toArray, List.getElem_cons_succ, List.getElem_cons_zero, Act.put, List.setIfInBounds_toArray, List.set_cons_zero, List.set_cons_succ] at KEY311
        refine share (Option Addr × Nat × Option Addr × Nat × Option Addr × Nat × Nat) 8 #[true, true, true, true, true, true, true, true, true, true, true, true, true, true, true, false, true, true, true, false, true, true, true, false, false, true, true, false, true, false, false, false] (fun a x => (((a.put (some 67) (.slice x.1 (n + 1) x.2.1)).put (some 71) (.slice x.2.2.1 (n + 2) x.2.2.2.1)).put (some 75) (.slice x.2.2.2.2.1 (n + 4) x.2.2.2.2.2.1)).put (some 89) (.slice (some ⟨x.2.2.2.2.2.2, 0, none⟩) 1 1)) (fun x u => Below u0.heap.size u0 u ∧ Chain u zA (base ++ [(x.1, n + 1, x.2.1, B ++ leL v8 1), (x.2.2.1, n + 2, x.2.2.2.1, B ++ leL v16 2), (x.2.2.2.2.1, n + 4, x.2.2.2.2.2.1, B ++ leL v32 4)]) ∧ u.cell? ⟨x.2.2.2.2.2.2, 0, none⟩ = some (.slice (some ⟨gK, 0, none⟩) n cl)) ?_ (fun KEY301 => ?_)
        · intro x u hpre
          obtain ⟨a1, c1, a2, c2, a4, c4, g26⟩ := x
          obtain ⟨hB, CH, hc26⟩ := hpre
          have hHeld := HX.out _ hB
          simp only [List.getElem_toArray, List.getElem_cons_succ, List.getElem_cons_zero, Act.put, List.setIfInBounds_toArray, List.set_cons_zero, List.set_cons_succ]
          have KRu := KR.out.later hB
          have hzu := Nat.le_trans hz0.out hB.size
          refine wpAnyH_norm (l2 := #[true, true, true, true, true, true, true, true, true, true, true, true, true, true, true, false, true, true, true, false, true, true, true, false, false, true, true, false, true, false, false, false]) (f2 := 8) (by kernel_rfl) (by kernel_rfl) ?_
          refine wpAnyH_ready (rs := [15, 23]) (by kernel_rfl) (by simp) ?_
          refine AllReadyH.cons rfl (fun K hK => ?_) (AllReadyH.cons rfl (fun K hK => ?_) AllReadyH.nil)
          · go_simp
            go_wp2_with (first | (go_at_call 15; refine (put64 _ _ _ B v _ hv KRu (by have := HN.out; omega)).mono ?_; rintro e U ⟨a8, c8, rfl, P, hb⟩))
            have hB2 := below_call hB hb
            have CH2 := CH.call hb P hzu
            rw [List.append_assoc] at CH2
            refine hK.out _ _ (HX.out _ hB2) (fun _ => ?_)
            clear hK K
            simp only [List.getElem_toArray, List.getElem_cons_succ, List.getElem_cons_zero, Act.put, List.setIfInBounds_toArray, List.set_cons_zero, List.set_cons_succ]
            refine wpAnyH_norm (l2 := #[true, true, true, true, true, true, true, true, true, true, true, true, true, true, true, true, true, true, true, false, true, true, true, false, false, true, true, false, true, false, false, false]) (f2 := 7) (by kernel_rfl) (by kernel_rfl) ?_
            exact KEY401.out (a1, c1, a2, c2, a4, c4, a8, c8, g26) U ⟨hB2, CH2, cell_later hb hc26⟩
          · go_simp
            have hb := below1 u (Obj.cells #[.slice (some ⟨gK, 0, none⟩) n cl, .slice (some ⟨gK, 0, none⟩) n cl] 22)
            have hB2 := below_call hB hb
            refine hK.out _ _ (HX.out _ hB2) (fun _ => ?_)
            clear hK K
            simp only [List.getElem_toArray, List.getElem_cons_succ, List.getElem_cons_zero, Act.put, List.setIfInBounds_toArray, List.set_cons_zero, List.set_cons_succ]
            obtain ⟨g23, hg⟩ : ∃ g, g = u.heap.size := ⟨_, rfl⟩
            rw [← hg]
            refine wpAnyH_norm (l2 := #[true, true, true, true, true, true, true, true, true, true, true, true, true, true, true, false, true, true, true, false, true, true, true, true, false, true, true, false, true, false, false, false]) (f2 := 7) (by kernel_rfl) (by kernel_rfl) ?_
            exact KEY311.out (a1, c1, a2, c2, a4, c4, g23, g26) _ ⟨hB2, CH.later hb, ⟨by rw [hg]; simp [go_sem], by rw [hg]; simp [go_sem]⟩, cell_later hb hc26⟩
        simp only [List.getElem_toArray, List.getElem_cons_succ, List.getElem_cons_zero, Act.put, List.setIfInBounds_toArray, List.set_cons_zero, List.set_cons_succ] at KEY301
        refine share (Option Addr × Nat × Option Addr × Nat × Option Addr × Nat × Nat) 8 #[true, true, true, true, true, true, true, true, true, true, true, true, true, true, true, false, true, true, true, false, true, true, true, true, false, true, false, false, true, false, false, false] (fun a x => (((a.put (some 67) (.slice x.1 (n + 1) x.2.1)).put (some 71) (.slice x.2.2.1 (n + 2) x.2.2.2.1)).put (some 75) (.slice x.2.2.2.2.1 (n + 4) x.2.2.2.2.2.1)).put (some 86) (.slice (some ⟨x.2.2.2.2.2.2, 0, none⟩) 2 2)) (fun x u => Below u0.heap.size u0 u ∧ Chain u zA (base ++ [(x.1, n + 1, x.2.1, B ++ leL v8 1), (x.2.2.1, n + 2, x.2.2.2.1, B ++ leL v16 2), (x.2.2.2.2.1, n + 4, x.2.2.2.2.2.1, B ++ leL v32 4)]) ∧ (u.cell? ⟨x.2.2.2.2.2.2, 0, none⟩ = some (.slice (some ⟨gK, 0, none⟩) n cl) ∧ u.cell? ⟨x.2.2.2.2.2.2, 1, none⟩ = some (.slice (some ⟨gK, 0, none⟩) n cl))) ?_ (fun KEY310 => ?_)
        · intro x u hpre
          obtain ⟨a1, c1, a2, c2, a4, c4, g23⟩ := x
          obtain ⟨hB, CH, hc23⟩ := hpre
          have hHeld := HX.out _ hB
          simp only [List.getElem_toArray, List.getElem_cons_succ, List.getElem_cons_zero, Act.put, List.setIfInBounds_toArray, List.set_cons_zero, List.set_cons_succ]
          have KRu := KR.out.later hB
          have hzu := Nat.le_trans hz0.out hB.size
          refine wpAnyH_norm (l2 := #[true, true, true, true, true, true, true, true, true, true, true, true, true, true, true, false, true, true, true, false, true, true, true, true, false, true, false, false, true, false, false, false]) (f2 := 8) (by kernel_rfl) (by kernel_rfl) ?_
          refine wpAnyH_ready (rs := [15, 26]) (by kernel_rfl) (by simp) ?_
          refine AllReadyH.cons rfl (fun K hK => ?_) (AllReadyH.cons rfl (fun K hK => ?_) AllReadyH.nil)
          · go_simp
            go_wp2_with (first | (go_at_call 15; refine (put64 _ _ _ B v _ hv KRu (by have := HN.out; omega)).mono ?_; rintro e U ⟨a8, c8, rfl, P, hb⟩))
            have hB2 := below_call hB hb
            have CH2 := CH.call hb P hzu
            rw [List.append_assoc] at CH2
            refine hK.out _ _ (HX.out _ hB2) (fun _ => ?_)
            clear hK K
            simp only [List.getElem_toArray, List.getElem_cons_succ, List.getElem_cons_zero, Act.put, List.setIfInBounds_toArray, List.set_cons_zero, List.set_cons_succ]
            refine wpAnyH_norm (l2 := #[true, true, true, true, true, true, true, true, true, true, true, true, true, true, true, true, true, true, true, false, true, true, true, true, false, true, false, false, true, false, false, false]) (f2 := 7) (by kernel_rfl) (by kernel_rfl) ?_
            exact KEY410.out (a1, c1, a2, c2, a4, c4, a8, c8, g23) U ⟨hB2, CH2, ⟨cell_later hb hc23.1, cell_later hb hc23.2⟩⟩
          · go_simp
            have hb := below1 u (Obj.cells #[.slice (some ⟨gK, 0, none⟩) n cl] 22)
            have hB2 := below_call hB hb
            refine hK.out _ _ (HX.out _ hB2) (fun _ => ?_)
            clear hK K
            simp only [List.getElem_toArray, List.getElem_cons_succ, List.getElem_cons_zero, Act.put, List.setIfInBounds_toArray, List.set_cons_zero, List.set_cons_succ]
            obtain ⟨g26, hg⟩ : ∃ g, g = u.heap.size := ⟨_, rfl⟩
            rw [← hg]
            refine wpAnyH_norm (l2 := #[true, true, true, true, true, true, true, true, true, true, true, true, true, true, true, false, true, true, true, false, true, true, true, true, false, true, true, false, true, false, false, false]) (f2 := 7) (by kernel_rfl) (by kernel_rfl) ?_
            exact KEY311.out (a1, c1, a2, c2, a4, c4, g23, g26) _ ⟨hB2, CH.later hb, ⟨cell_later hb hc23.1, cell_later hb hc23.2⟩, by rw [hg]; simp [go_sem]⟩
        simp only [List.getElem_toArray, List.getElem_cons_succ, List.getElem_cons_zero, Act.put, List.setIfInBounds_toArray, List.set_cons_zero, List.set_cons_succ] at KEY310
        refine share (Option Addr × Nat × Option Addr × Nat × Option Addr × Nat) 9 #[true, true, true, true, true, true, true, true, true, true, true, true, true, true, true, false, true, true, true, false, true, true, true, false, false, true, false, false, true, false, false, false] (fun a x => ((a.put (some 67) (.slice x.1 (n + 1) x.2.1)).put (some 71) (.slice x.2.2.1 (n + 2) x.2.2.2.1)).put (some 75) (.slice x.2.2.2.2.1 (n + 4) x.2.2.2.2.2)) (fun x u => Below u0.heap.size u0 u ∧ Chain u zA (base ++ [(x.1, n + 1, x.2.1, B ++ leL v8 1), (x.2.2.1, n + 2, x.2.2.2.1, B ++ leL v16 2), (x.2.2.2.2.1, n + 4, x.2.2.2.2.2, B ++ leL v32 4)])) ?_ (fun KEY300 => ?_)
        · intro x u hpre
          obtain ⟨a1, c1, a2, c2, a4, c4⟩ := x
          obtain ⟨hB, CH⟩ := hpre
          have hHeld := HX.out _ hB
          simp only [List.getElem_toArray, List.getElem_cons_succ, List.getElem_cons_zero, Act.put, List.setIfInBounds_toArray, List.set_cons_zero, List.set_cons_succ]
          have KRu := KR.out.later hB
          have hzu := Nat.le_trans hz0.out hB.size
          refine wpAnyH_norm (l2 := #[true, true, true, true, true, true, true, true, true, true, true, true, true, true, true, false, true, true, true, false, true, true, true, false, false, true, false, false, true, false, false, false]) (f2 := 9) (by kernel_rfl) (by kernel_rfl) ?_
          refine wpAnyH_ready (rs := [15, 23, 26]) (by kernel_rfl) (by simp) ?_
          refine AllReadyH.cons rfl (fun K hK => ?_) (AllReadyH.cons rfl (fun K hK => ?_) (AllReadyH.cons rfl (fun K hK => ?_) AllReadyH.nil))
          · go_simp
            go_wp2_with (first | (go_at_call 15; refine (put64 _ _ _ B v _ hv KRu (by have := HN.out; omega)).mono ?_; rintro e U ⟨a8, c8, rfl, P, hb⟩))
            have hB2 := below_call hB hb
            have CH2 := CH.call hb P hzu
            rw [List.append_assoc] at CH2
            refine hK.out _ _ (HX.out _ hB2) (fun _ => ?_)
            clear hK K
            simp only [List.getElem_toArray, List.getElem_cons_succ, List.getElem_cons_zero, Act.put, List.setIfInBounds_toArray, List.set_cons_zero, List.set_cons_succ]
            refine wpAnyH_norm (l2 := #[true, true, true, true, true, true, true, true, true, true, true, true, true, true, true, true, true, true, true, false, true, true, true, false, false, true, false, false, true, false, false, false]) (f2 := 8) (by kernel_rfl) (by kernel_rfl) ?_
            exact KEY400.out (a1, c1, a2, c2, a4, c4, a8, c8) U ⟨hB2, CH2⟩
          · go_simp
            have hb := below1 u (Obj.cells #[.slice (some ⟨gK, 0, none⟩) n cl, .slice (some ⟨gK, 0, none⟩) n cl] 22)
            have hB2 := below_call hB hb
            refine hK.out _ _ (HX.out _ hB2) (fun _ => ?_)
            clear hK K
            simp only [List.getElem_toArray, List.getElem_cons_succ, List.getElem_cons_zero, Act.put, List.setIfInBounds_toArray, List.set_cons_zero, List.set_cons_succ]
            obtain ⟨g23, hg⟩ : ∃ g, g = u.heap.size := ⟨_, rfl⟩
            rw [← hg]
            refine wpAnyH_norm (l2 := #[true, true, true, true, true, true, true, true, true, true, true, true, true, true, true, false, true, true, true, false, true, true, true, true, false, true, false, false, true, false, false, false]) (f2 := 8) (by kernel_rfl) (by kernel_rfl) ?_
            exact KEY310.out (a1, c1, a2, c2, a4, c4, g23) _ ⟨hB2, CH.later hb, ⟨by rw [hg]; simp [go_sem], by rw [hg]; simp [go_sem]⟩⟩
          · go_simp
            have hb := below1 u (Obj.cells #[.slice (some ⟨gK, 0, none⟩) n cl] 22)
            have hB2 := below_call hB hb
            refine hK.out _ _ (HX.out _ hB2) (fun _ => ?_)
            clear hK K
            simp only [List.getElem_toArray, List.getElem_cons_succ, List.getElem_cons_zero, Act.put, List.setIfInBounds_toArray, List.set_cons_zero, List.set_cons_succ]
            obtain ⟨g26, hg⟩ : ∃ g, g = u.heap.size := ⟨_, rfl⟩
            rw [← hg]
            refine wpAnyH_norm (l2 := #[true, true, true, true, true, true, true, true, true, true, true, true, true, true, true, false, true, true, true, false, true, true, true, false, false, true, true, false, true, false, false, false]) (f2 := 8) (by kernel_rfl) (by kernel_rfl) ?_
            exact KEY301.out (a1, c1, a2, c2, a4, c4, g26) _ ⟨hB2, CH.later hb, by rw [hg]; simp [go_sem]⟩
        simp only [List.getElem_toArray, List.getElem_cons_succ, List.getElem_cons_zero, Act.put, List.setIfInBounds_toArray, List.set_cons_zero, List.set_cons_succ] at KEY300
        refine share (Option Addr × Nat × Option Addr × Nat × Nat × Nat) 8 #[true, true, true, true, true, true, true, true, true, true, true, true, false, true, true, false, true, true, true, false, true, true, true, true, false, true, true, false, true, false, false, false] (fun a x => (((a.put (some 67) (.slice x.1 (n + 1) x.2.1)).put (some 71) (.slice x.2.2.1 (n + 2) x.2.2.2.1)).put (some 86) (.slice (some ⟨x.2.2.2.2.1, 0, none⟩) 2 2)).put (some 89) (.slice (some ⟨x.2.2.2.2.2, 0, none⟩) 1 1)) (fun x u => Below u0.heap.size u0 u ∧ Chain u zA (base ++ [(x.1, n + 1, x.2.1, B ++ leL v8 1), (x.2.2.1, n + 2, x.2.2.2.1, B ++ leL v16 2)]) ∧ (u.cell? ⟨x.2.2.2.2.1, 0, none⟩ = some (.slice (some ⟨gK, 0, none⟩) n cl) ∧ u.cell? ⟨x.2.2.2.2.1, 1, none⟩ = some (.slice (some ⟨gK, 0, none⟩) n cl)) ∧ u.cell? ⟨x.2.2.2.2.2, 0, none⟩ = some (.slice (some ⟨gK, 0, none⟩) n cl)) ?_ (fun KEY211 => ?_)
        · intro x u hpre
          obtain ⟨a1, c1, a2, c2, g23, g26⟩ := x
          obtain ⟨hB, CH, hc23, hc26⟩ := hpre
          have hHeld := HX.out _ hB
          simp only [List.getElem_toArray, List.getElem_cons_succ, List.getElem_cons_zero, Act.put, List.setIfInBounds_toArray, List.set_cons_zero, List.set_cons_succ]
          have KRu := KR.out.later hB
          have hzu := Nat.le_trans hz0.out hB.size
          refine wpAnyH_norm (l2 := #[true, true, true, true, true, true, true, true, true, true, true, true, false, true, true, false, true, true, true, false, true, true, true, true, false, true, true, false, true, false, false, false]) (f2 := 8) (by kernel_rfl) (by kernel_rfl) ?_
          refine wpAnyH_ready (rs := [12]) (by kernel_rfl) (by simp) ?_
          refine AllReadyH.cons rfl (fun K hK => ?_) AllReadyH.nil
          · go_simp
            go_wp2_with (first | (go_at_call 14; refine (put32 _ _ _ B v32 _ H8.out.2.2 KRu (by have := HN.out; omega)).mono ?_; rintro e U ⟨a4, c4, rfl, P, hb⟩))
            have hB2 := below_call hB hb
            have CH2 := CH.call hb P hzu
            rw [List.append_assoc] at CH2
            refine hK.out _ _ (HX.out _ hB2) (fun _ => ?_)
            clear hK K
            simp only [List.getElem_toArray, List.getElem_cons_succ, List.getElem_cons_zero, Act.put, List.setIfInBounds_toArray, List.set_cons_zero, List.set_cons_succ]
            refine wpAnyH_norm (l2 := #[true, true, true, true, true, true, true, true, true, true, true, true, true, true, true, false, true, true, true, false, true, true, true, true, false, true, true, false, true, false, false, false]) (f2 := 7) (by kernel_rfl) (by kernel_rfl) ?_
            exact KEY311.out (a1, c1, a2, c2, a4, c4, g23, g26) U ⟨hB2, CH2, ⟨cell_later hb hc23.1, cell_later hb hc23.2⟩, cell_later hb hc26⟩
        simp only [List.getElem_toArray, List.getElem_cons_succ, List.getElem_cons_zero, Act.put, List.setIfInBounds_toArray, List.set_cons_zero, List.set_cons_succ] at KEY211
        refine share (Option Addr × Nat × Option Addr × Nat × Nat) 9 #[true, true, true, true, true, true, true, true, true, true, true, true, false, true, true, false, true, true, true, false, true, true, true, false, false, true, true, false, true, false, false, false] (fun a x => ((a.put (some 67) (.slice x.1 (n + 1) x.2.1)).put (some 71) (.slice x.2.2.1 (n + 2) x.2.2.2.1)).put (some 89) (.slice (some ⟨x.2.2.2.2, 0, none⟩) 1 1)) (fun x u => Below u0.heap.size u0 u ∧ Chain u zA (base ++ [(x.1, n + 1, x.2.1, B ++ leL v8 1), (x.2.2.1, n + 2, x.2.2.2.1, B ++ leL v16 2)]) ∧ u.cell? ⟨x.2.2.2.2, 0, none⟩ = some (.slice (some ⟨gK, 0, none⟩) n cl)) ?_ (fun KEY201 => ?_)
        · intro x u hpre
          obtain ⟨a1, c1, a2, c2, g26⟩ := x
          obtain ⟨hB, CH, hc26⟩ := hpre
          have hHeld := HX.out _ hB
          simp only [List.getElem_toArray, List.getElem_cons_succ, List.getElem_cons_zero, Act.put, List.setIfInBounds_toArray, List.set_cons_zero, List.set_cons_succ]
          have KRu := KR.out.later hB
          have hzu := Nat.le_trans hz0.out hB.size
          refine wpAnyH_norm (l2 := #[true, true, true, true, true, true, true, true, true, true, true, true, false, true, true, false, true, true, true, false, true, true, true, false, false, true, true, false, true, false, false, false]) (f2 := 9) (by kernel_rfl) (by kernel_rfl) ?_
          refine wpAnyH_ready (rs := [12, 23]) (by kernel_rfl) (by simp) ?_
          refine AllReadyH.cons rfl (fun K hK => ?_) (AllReadyH.cons rfl (fun K hK => ?_) AllReadyH.nil)
          · go_simp
            go_wp2_with (first | (go_at_call 14; refine (put32 _ _ _ B v32 _ H8.out.2.2 KRu (by have := HN.out; omega)).mono ?_; rintro e U ⟨a4, c4, rfl, P, hb⟩))
            have hB2 := below_call hB hb
            have CH2 := CH.call hb P hzu
            rw [List.append_assoc] at CH2
            refine hK.out _ _ (HX.out _ hB2) (fun _ => ?_)
            clear hK K
            simp only [List.getElem_toArray, List.getElem_cons_succ, List.getElem_cons_zero, Act.put, List.setIfInBounds_toArray, List.set_cons_zero, List.set_cons_succ]
            refine wpAnyH_norm (l2 := #[true, true, true, true, true, true, true, true, true, true, true, true, true, true, true, false, true, true, true, false, true, true, true, false, false, true, true, false, true, false, false, false]) (f2 := 8) (by kernel_rfl) (by kernel_rfl) ?_
            exact KEY301.out (a1, c1, a2, c2, a4, c4, g26) U ⟨hB2, CH2, cell_later hb hc26⟩
          · go_simp
            have hb := below1 u (Obj.cells #[.slice (some ⟨gK, 0, none⟩) n cl, .slice (some ⟨gK, 0, none⟩) n cl] 22)
            have hB2 := below_call hB hb
            refine hK.out _ _ (HX.out _ hB2) (fun _ => ?_)
            clear hK K
            simp only [List.getElem_toArray, List.getElem_cons_succ, List.getElem_cons_zero, Act.put, List.setIfInBounds_toArray, List.set_cons_zero, List.set_cons_succ]
            obtain ⟨g23, hg⟩ : ∃ g, g = u.heap.size := ⟨_, rfl⟩
            rw [← hg]
            refine wpAnyH_norm (l2 := #[true, true, true, true, true, true, true, true, true, true, true, true, false, true, true, false, true, true, true, false, true, true, true, true, false, true, true, false, true, false, false, false]) (f2 := 8) (by kernel_rfl) (by kernel_rfl) ?_
            exact KEY211.out (a1, c1, a2, c2, g23, g26) _ ⟨hB2, CH.later hb, ⟨by rw [hg]; simp [go_sem], by rw [hg]; simp [go_sem]⟩, cell_later hb hc26⟩
        simp only [List.getElem_toArray, List.getElem_cons_succ, List.getElem_cons_zero, Act.put, List.setIfInBounds_toArray, List.set_cons_zero, List.set_cons_succ] at KEY201
        refine share (Option Addr × Nat × Option Addr × Nat × Nat) 9 #[true, true, true, true, true, true, true, true, true, true, true, true, false, true, true, false, true, true, true, false, true, true, true, true, false, true, false, false, true, false, false, false] (fun a x => ((a.put (some 67) (.slice x.1 (n + 1) x.2.1)).put (some 71) (.slice x.2.2.1 (n + 2) x.2.2.2.1)).put (some 86) (.slice (some ⟨x.2.2.2.2, 0, none⟩) 2 2)) (fun x u => Below u0.heap.size u0 u ∧ Chain u zA (base ++ [(x.1, n + 1, x.2.1, B ++ leL v8 1), (x.2.2.1, n + 2, x.2.2.2.1, B ++ leL v16 2)]) ∧ (u.cell? ⟨x.2.2.2.2, 0, none⟩ = some (.slice (some ⟨gK, 0, none⟩) n cl) ∧ u.cell? ⟨x.2.2.2.2, 1, none⟩ = some (.slice (some ⟨gK, 0, none⟩) n cl))) ?_ (fun KEY210 => ?_)
        · intro x u hpre
          obtain ⟨a1, c1, a2, c2, g23⟩ := x
          obtain ⟨hB, CH, hc23⟩ := hpre
          have hHeld := HX.out _ hB
          simp only [List.getElem_toArray, List.getElem_cons_succ, List.getElem_cons_zero, Act.put, List.setIfInBounds_toArray, List.set_cons_zero, List.set_cons_succ]
          have KRu := KR.out.later hB
          have hzu := Nat.le_trans hz0.out hB.size
          refine wpAnyH_norm (l2 := #[true, true, true, true, true, true, true, true, true, true, true, true, false, true, true, false, true, true, true, false, true, true, true, true, false, true, false, false, true, false, false, false]) (f2 := 9) (by kernel_rfl) (by kernel_rfl) ?_
          refine wpAnyH_ready (rs := [12, 26]) (by kernel_rfl) (by simp) ?_
          refine AllReadyH.cons rfl (fun K hK => ?_) (AllReadyH.cons rfl (fun K hK => ?_) AllReadyH.nil)
          · go_simp
            go_wp2_with (first | (go_at_call 14; refine (put32 _ _ _ B v32 _ H8.out.2.2 KRu (by have := HN.out; omega)).mono ?_; rintro e U ⟨a4, c4, rfl, P, hb⟩))
            have hB2 := below_call hB hb
            have CH2 := CH.call hb P hzu
            rw [List.append_assoc] at CH2
            refine hK.out _ _ (HX.out _ hB2) (fun _ => ?_)
            clear hK K
            simp only [List.getElem_toArray, List.getElem_cons_succ, List.getElem_cons_zero, Act.put, List.setIfInBounds_toArray, List.set_cons_zero, List.set_cons_succ]
            refine wpAnyH_norm (l2 := #[true, true, true, true, true, true, true, true, true, true, true, true, true, true, true, false, true, true, true, false, true, true, true, true, false, true, false, false, true, false, false, false]) (f2 := 8) (by kernel_rfl) (by kernel_rfl) ?_
            exact KEY310.out (a1, c1, a2, c2, a4, c4, g23) U ⟨hB2, CH2, ⟨cell_later hb hc23.1, cell_later hb hc23.2⟩⟩
          · go_simp
            have hb := below1 u (Obj.cells #[.slice (some ⟨gK, 0, none⟩) n cl] 22)
            have hB2 := below_call hB hb
            refine hK.out _ _ (HX.out _ hB2) (fun _ => ?_)
            clear hK K
            simp only [List.getElem_toArray, List.getElem_cons_succ, List.getElem_cons_zero, Act.put, List.setIfInBounds_toArray, List.set_cons_zero, List.set_cons_succ]
            obtain ⟨g26, hg⟩ : ∃ g, g = u.heap.size := ⟨_, rfl⟩
            rw [← hg]
            refine wpAnyH_norm (l2 := #[true, true, true, true, true, true, true, true, true, true, true, true, false, true, true, false, true, true, true, false, true, true, true, true, false, true, true, false, true, false, false, false]) (f2 := 8) (by kernel_rfl) (by kernel_rfl) ?_
            exact KEY211.out (a1, c1, a2, c2, g23, g26) _ ⟨hB2, CH.later hb, ⟨cell_later hb hc23.1, cell_later hb hc23.2⟩, by rw [hg]; simp [go_sem]⟩
        simp only [List.getElem_toArray, List.getElem_cons_succ, List.getElem_cons_zero, Act.put, List.setIfInBounds_toArray, List.set_cons_zero, List.set_cons_succ] at KEY210
        refine share (Option Addr × Nat × Option Addr × Nat) 10 #[true, true, true, true, true, true, true, true, true, true, true, true, false, true, true, false, true, true, true, false, true, true, true, false, false, true, false, false, true, false, false, false] (fun a x => (a.put (some 67) (.slice x.1 (n + 1) x.2.1)).put (some 71) (.slice x.2.2.1 (n + 2) x.2.2.2)) (fun x u => Below u0.heap.size u0 u ∧ Chain u zA (base ++ [(x.1, n + 1, x.2.1, B ++ leL v8 1), (x.2.2.1, n + 2, x.2.2.2, B ++ leL v16 2)])) ?_ (fun KEY200 => ?_)
        · intro x u hpre
          obtain ⟨a1, c1, a2, c2⟩ := x
          obtain ⟨hB, CH⟩ := hpre
          have hHeld := HX.out _ hB
          simp only [List.getElem_toArray, List.getElem_cons_succ, List.getElem_cons_zero, Act.put, List.setIfInBounds_toArray, List.set_cons_zero, List.set_cons_succ]
          have KRu := KR.out.later hB
          have hzu := Nat.le_trans hz0.out hB.size
          refine wpAnyH_norm (l2 := #[true, true, true, true, true, true, true, true, true, true, true, true, false, true, true, false, true, true, true, false, true, true, true, false, false, true, false, false, true, false, false, false]) (f2 := 10) (by kernel_rfl) (by kernel_rfl) ?_
          refine wpAnyH_ready (rs := [12, 23, 26]) (by kernel_rfl) (by simp) ?_
          refine AllReadyH.cons rfl (fun K hK => ?_) (AllReadyH.cons rfl (fun K hK => ?_) (AllReadyH.cons rfl (fun K hK => ?_) AllReadyH.nil))
          · go_simp
            go_wp2_with (first | (go_at_call 14; refine (put32 _ _ _ B v32 _ H8.out.2.2 KRu (by have := HN.out; omega)).mono ?_; rintro e U ⟨a4, c4, rfl, P, hb⟩))
            have hB2 := below_call hB hb
            have CH2 := CH.call hb P hzu
            rw [List.append_assoc] at CH2
            refine hK.out _ _ (HX.out _ hB2) (fun _ => ?_)
            clear hK K
            simp only [List.getElem_toArray, List.getElem_cons_succ, List.getElem_cons_zero, Act.put, List.setIfInBounds_toArray, List.set_cons_zero, List.set_cons_succ]
            refine wpAnyH_norm (l2 := #[true, true, true, true, true, true, true, true, true, true, true, true, true, true, true, false, true, true, true, false, true, true, true, false, false, true, false, false, true, false, false, false]) (f2 := 9) (by kernel_rfl) (by kernel_rfl) ?_
            exact KEY300.out (a1, c1, a2, c2, a4, c4) U ⟨hB2, CH2⟩
          · go_simp
            have hb := below1 u (Obj.cells #[.slice (some ⟨gK, 0, none⟩) n cl, .slice (some ⟨gK, 0, none⟩) n cl] 22)
            have hB2 := below_call hB hb
            refine hK.out _ _ (HX.out _ hB2) (fun _ => ?_)
            clear hK K
            simp only [List.getElem_toArray, List.getElem_cons_succ, List.getElem_cons_zero, Act.put, List.setIfInBounds_toArray, List.set_cons_zero, List.set_cons_succ]
            obtain ⟨g23, hg⟩ : ∃ g, g = u.heap.size := ⟨_, rfl⟩
            rw [← hg]
            refine wpAnyH_norm (l2 := #[true, true, true, true, true, true, true, true, true, true, true, true, false, true, true, false, true, true, true, false, true, true, true, true, false, true, false, false, true, false, false, false]) (f2 := 9) (by kernel_rfl) (by kernel_rfl) ?_
            exact KEY210.out (a1, c1, a2, c2, g23) _ ⟨hB2, CH.later hb, ⟨by rw [hg]; simp [go_sem], by rw [hg]; simp [go_sem]⟩⟩
          · go_simp
            have hb := below1 u (Obj.cells #[.slice (some ⟨gK, 0, none⟩) n cl] 22)
            have hB2 := below_call hB hb
            refine hK.out _ _ (HX.out _ hB2) (fun _ => ?_)
            clear hK K
            simp only [List.getElem_toArray, List.getElem_cons_succ, List.getElem_cons_zero, Act.put, List.setIfInBounds_toArray, List.set_cons_zero, List.set_cons_succ]
            obtain ⟨g26, hg⟩ : ∃ g, g = u.heap.size := ⟨_, rfl⟩
            rw [← hg]
            refine wpAnyH_norm (l2 := #[true, true, true, true, true, true, true, true, true, true, true, true, false, true, true, false, true, true, true, false, true, true, true, false, false, true, true, false, true, false, false, false]) (f2 := 9) (by kernel_rfl) (by kernel_rfl) ?_
            exact KEY201.out (a1, c1, a2, c2, g26) _ ⟨hB2, CH.later hb, by rw [hg]; simp [go_sem]⟩
        simp only [List.getElem_toArray, List.getElem_cons_succ, List.getElem_cons_zero, Act.put, List.setIfInBounds_toArray, List.set_cons_zero, List.set_cons_succ] at KEY200
        refine share (Option Addr × Nat × Nat × Nat) 9 #[true, true, true, true, true, true, true, true, false, true, true, true, false, true, true, false, true, true, true, false, true, true, true, true, false, true, true, false, true, false, false, false] (fun a x => ((a.put (some 67) (.slice x.1 (n + 1) x.2.1)).put (some 86) (.slice (some ⟨x.2.2.1, 0, none⟩) 2 2)).put (some 89) (.slice (some ⟨x.2.2.2, 0, none⟩) 1 1)) (fun x u => Below u0.heap.size u0 u ∧ Chain u zA (base ++ [(x.1, n + 1, x.2.1, B ++ leL v8 1)]) ∧ (u.cell? ⟨x.2.2.1, 0, none⟩ = some (.slice (some ⟨gK, 0, none⟩) n cl) ∧ u.cell? ⟨x.2.2.1, 1, none⟩ = some (.slice (some ⟨gK, 0, none⟩) n cl)) ∧ u.cell? ⟨x.2.2.2, 0, none⟩ = some (.slice (some ⟨gK, 0, none⟩) n cl)) ?_ (fun KEY111 => ?_)
        · intro x u hpre
          obtain ⟨a1, c1, g23, g26⟩ := x
          obtain ⟨hB, CH, hc23, hc26⟩ := hpre
          have hHeld := HX.out _ hB
          simp only [List.getElem_toArray, List.getElem_cons_succ, List.getElem_cons_zero, Act.put, List.setIfInBounds_toArray, List.set_cons_zero, List.set_cons_succ]
          have KRu := KR.out.later hB
          have hzu := Nat.le_trans hz0.out hB.size
          refine wpAnyH_norm (l2 := #[true, true, true, true, true, true, true, true, false, true, true, true, false, true, true, false, true, true, true, false, true, true, true, true, false, true, true, false, true, false, false, false]) (f2 := 9) (by kernel_rfl) (by kernel_rfl) ?_
          refine wpAnyH_ready (rs := [8]) (by kernel_rfl) (by simp) ?_
          refine AllReadyH.cons rfl (fun K hK => ?_) AllReadyH.nil
          · go_simp
            go_wp2_with (first | (go_at_call 13; refine (put16 _ _ _ B v16 _ H8.out.2.1 KRu (by have := HN.out; omega)).mono ?_; rintro e U ⟨a2, c2, rfl, P, hb⟩))
            have hB2 := below_call hB hb
            have CH2 := CH.call hb P hzu
            rw [List.append_assoc] at CH2
            refine hK.out _ _ (HX.out _ hB2) (fun _ => ?_)
            clear hK K
            simp only [List.getElem_toArray, List.getElem_cons_succ, List.getElem_cons_zero, Act.put, List.setIfInBounds_toArray, List.set_cons_zero, List.set_cons_succ]
            refine wpAnyH_norm (l2 := #[true, true, true, true, true, true, true, true, true, true, true, true, false, true, true, false, true, true, true, false, true, true, true, true, false, true, true, false, true, false, false, false]) (f2 := 8) (by kernel_rfl) (by kernel_rfl) ?_
            exact KEY211.out (a1, c1, a2, c2, g23, g26) U ⟨hB2, CH2, ⟨cell_later hb hc23.1, cell_later hb hc23.2⟩, cell_later hb hc26⟩
        simp only [List.getElem_toArray, List.getElem_cons_succ, List.getElem_cons_zero, Act.put, List.setIfInBounds_toArray, List.set_cons_zero, List.set_cons_succ] at KEY111
        refine share (Option Addr × Nat × Nat) 10 #[true, true, true, true, true, true, true, true, false, true, true, true, false, true, true, false, true, true, true, false, true, true, true, false, false, true, true, false, true, false, false, false] (fun a x => (a.put (some 67) (.slice x.1 (n + 1) x.2.1)).put (some 89) (.slice (some ⟨x.2.2, 0, none⟩) 1 1)) (fun x u => Below u0.heap.size u0 u ∧ Chain u zA (base ++ [(x.1, n + 1, x.2.1, B ++ leL v8 1)]) ∧ u.cell? ⟨x.2.2, 0, none⟩ = some (.slice (some ⟨gK, 0, none⟩) n cl)) ?_ (fun KEY101 => ?_)
        · intro x u hpre
          obtain ⟨a1, c1, g26⟩ := x
          obtain ⟨hB, CH, hc26⟩ := hpre
          have hHeld := HX.out _ hB
          simp only [List.getElem_toArray, List.getElem_cons_succ, List.getElem_cons_zero, Act.put, List.setIfInBounds_toArray, List.set_cons_zero, List.set_cons_succ]
          have KRu := KR.out.later hB
          have hzu := Nat.le_trans hz0.out hB.size
          refine wpAnyH_norm (l2 := #[true, true, true, true, true, true, true, true, false, true, true, true, false, true, true, false, true, true, true, false, true, true, true, false, false, true, true, false, true, false, false, false]) (f2 := 10) (by kernel_rfl) (by kernel_rfl) ?_
          refine wpAnyH_ready (rs := [8, 23]) (by kernel_rfl) (by simp) ?_
          refine AllReadyH.cons rfl (fun K hK => ?_) (AllReadyH.cons rfl (fun K hK => ?_) AllReadyH.nil)
          · go_simp
            go_wp2_with (first | (go_at_call 13; refine (put16 _ _ _ B v16 _ H8.out.2.1 KRu (by have := HN.out; omega)).mono ?_; rintro e U ⟨a2, c2, rfl, P, hb⟩))
            have hB2 := below_call hB hb
            have CH2 := CH.call hb P hzu
            rw [List.append_assoc] at CH2
            refine hK.out _ _ (HX.out _ hB2) (fun _ => ?_)
            clear hK K
            simp only [List.getElem_toArray, List.getElem_cons_succ, List.getElem_cons_zero, Act.put, List.setIfInBounds_toArray, List.set_cons_zero, List.set_cons_succ]
            refine wpAnyH_norm (l2 := #[true, true, true, true, true, true, true, true, true, true, true, true, false, true, true, false, true, true, true, false, true, true, true, false, false, true, true, false, true, false, false, false]) (f2 := 9) (by kernel_rfl) (by kernel_rfl) ?_
            exact KEY201.out (a1, c1, a2, c2, g26) U ⟨hB2, CH2, cell_later hb hc26⟩
          · go_simp
            have hb := below1 u (Obj.cells #[.slice (some ⟨gK, 0, none⟩) n cl, .slice (some ⟨gK, 0, none⟩) n cl] 22)
            have hB2 := below_call hB hb
            refine hK.out _ _ (HX.out _ hB2) (fun _ => ?_)
            clear hK K
            simp only [List.getElem_toArray, List.getElem_cons_succ, List.getElem_cons_zero, Act.put, List.setIfInBounds_toArray, List.set_cons_zero, List.set_cons_succ]
            obtain ⟨g23, hg⟩ : ∃ g, g = u.heap.size := ⟨_, rfl⟩
            rw [← hg]
            refine wpAnyH_norm (l2 := #[true, true, true, true, true, true, true, true, false, true, true, true, false, true, true, false, true, true, true, false, true, true, true, true, false, true, true, false, true, false, false, false]) (f2 := 9) (by kernel_rfl) (by kernel_rfl) ?_
            exact KEY111.out (a1, c1, g23, g26) _ ⟨hB2, CH.later hb, ⟨by rw [hg]; simp [go_sem], by rw [hg]; simp [go_sem]⟩, cell_later hb hc26⟩
        simp only [List.getElem_toArray, List.getElem_cons_succ, List.getElem_cons_zero, Act.put, List.setIfInBounds_toArray, List.set_cons_zero, List.set_cons_succ] at KEY101
        refine share (Option Addr × Nat × Nat) 10 #[true, true, true, true, true, true, true, true, false, true, true, true, false, true, true, false, true, true, true, false, true, true, true, true, false, true, false, false, true, false, false, false] (fun a x => (a.put (some 67) (.slice x.1 (n + 1) x.2.1)).put (some 86) (.slice (some ⟨x.2.2, 0, none⟩) 2 2)) (fun x u => Below u0.heap.size u0 u ∧ Chain u zA (base ++ [(x.1, n + 1, x.2.1, B ++ leL v8 1)]) ∧ (u.cell? ⟨x.2.2, 0, none⟩ = some (.slice (some ⟨gK, 0, none⟩) n cl) ∧ u.cell? ⟨x.2.2, 1, none⟩ = some (.slice (some ⟨gK, 0, none⟩) n cl))) ?_ (fun KEY110 => ?_)
        · intro x u hpre
          obtain ⟨a1, c1, g23⟩ := x
          obtain ⟨hB, CH, hc23⟩ := hpre
          have hHeld := HX.out _ hB
          simp only [List.getElem_toArray, List.getElem_cons_succ, List.getElem_cons_zero, Act.put, List.setIfInBounds_toArray, List.set_cons_zero, List.set_cons_succ]
          have KRu := KR.out.later hB
          have hzu := Nat.le_trans hz0.out hB.size
          refine wpAnyH_norm (l2 := #[true, true, true, true, true, true, true, true, false, true, true, true, false, true, true, false, true, true, true, false, true, true, true, true, false, true, false, false, true, false, false, false]) (f2 := 10) (by kernel_rfl) (by kernel_rfl) ?_
          refine wpAnyH_ready (rs := [8, 26]) (by kernel_rfl) (by simp) ?_
          refine AllReadyH.cons rfl (fun K hK => ?_) (AllReadyH.cons rfl (fun K hK => ?_) AllReadyH.nil)
          · go_simp
            go_wp2_with (first | (go_at_call 13; refine (put16 _ _ _ B v16 _ H8.out.2.1 KRu (by have := HN.out; omega)).mono ?_; rintro e U ⟨a2, c2, rfl, P, hb⟩))
            have hB2 := below_call hB hb
            have CH2 := CH.call hb P hzu
            rw [List.append_assoc] at CH2
            refine hK.out _ _ (HX.out _ hB2) (fun _ => ?_)
            clear hK K
            simp only [List.getElem_toArray, List.getElem_cons_succ, List.getElem_cons_zero, Act.put, List.setIfInBounds_toArray, List.set_cons_zero, List.set_cons_succ]
            refine wpAnyH_norm (l2 := #[true, true, true, true, true, true, true, true, true, true, true, true, false, true, true, false, true, true, true, false, true, true, true, true, false, true, false, false, true, false, false, false]) (f2 := 9) (by kernel_rfl) (by kernel_rfl) ?_
            exact KEY210.out (a1, c1, a2, c2, g23) U ⟨hB2, CH2, ⟨cell_later hb hc23.1, cell_later hb hc23.2⟩⟩
          · go_simp
            have hb := below1 u (Obj.cells #[.slice (some ⟨gK, 0, none⟩) n cl] 22)
            have hB2 := below_call hB hb
            refine hK.out _ _ (HX.out _ hB2) (fun _ => ?_)
            clear hK K
            simp only [List.getElem_toArray, List.getElem_cons_succ, List.getElem_cons_zero, Act.put, List.setIfInBounds_toArray, List.set_cons_zero, List.set_cons_succ]
            obtain ⟨g26, hg⟩ : ∃ g, g = u.heap.size := ⟨_, rfl⟩
            rw [← hg]
            refine wpAnyH_norm (l2 := #[true, true, true, true, true, true, true, true, false, true, true, true, false, true, true, false, true, true, true, false, true, true, true, true, false, true, true, false, true, false, false, false]) (f2 := 9) (by kernel_rfl) (by kernel_rfl) ?_
            exact KEY111.out (a1, c1, g23, g26) _ ⟨hB2, CH.later hb, ⟨cell_later hb hc23.1, cell_later hb hc23.2⟩, by rw [hg]; simp [go_sem]⟩
        simp only [List.getElem_toArray, List.getElem_cons_succ, List.getElem_cons_zero, Act.put, List.setIfInBounds_toArray, List.set_cons_zero, List.set_cons_succ] at KEY110
        refine share (Option Addr × Nat) 11 #[true, true, true, true, true, true, true, true, false, true, true, true, false, true, true, false, true, true, true, false, true, true, true, false, false, true, false, false, true, false, false, false] (fun a x => a.put (some 67) (.slice x.1 (n + 1) x.2)) (fun x u => Below u0.heap.size u0 u ∧ Chain u zA (base ++ [(x.1, n + 1, x.2, B ++ leL v8 1)])) ?_ (fun KEY100 => ?_)
        · intro x u hpre
          obtain ⟨a1, c1⟩ := x
          obtain ⟨hB, CH⟩ := hpre
          have hHeld := HX.out _ hB
          simp only [List.getElem_toArray, List.getElem_cons_succ, List.getElem_cons_zero, Act.put, List.setIfInBounds_toArray, List.set_cons_zero, List.set_cons_succ]
          have KRu := KR.out.later hB
          have hzu := Nat.le_trans hz0.out hB.size
          refine wpAnyH_norm (l2 := #[true, true, true, true, true, true, true, true, false, true, true, true, false, true, true, false, true, true, true, false, true, true, true, false, false, true, false, false, true, false, false, false]) (f2 := 11) (by kernel_rfl) (by kernel_rfl) ?_
          refine wpAnyH_ready (rs := [8, 23, 26]) (by kernel_rfl) (by simp) ?_
          refine AllReadyH.cons rfl (fun K hK => ?_) (AllReadyH.cons rfl (fun K hK => ?_) (AllReadyH.cons rfl (fun K hK => ?_) AllReadyH.nil))
          · go_simp
            go_wp2_with (first | (go_at_call 13; refine (put16 _ _ _ B v16 _ H8.out.2.1 KRu (by have := HN.out; omega)).mono ?_; rintro e U ⟨a2, c2, rfl, P, hb⟩))
            have hB2 := below_call hB hb
            have CH2 := CH.call hb P hzu
            rw [List.append_assoc] at CH2
            refine hK.out _ _ (HX.out _ hB2) (fun _ => ?_)
            clear hK K
            simp only [List.getElem_toArray, List.getElem_cons_succ, List.getElem_cons_zero, Act.put, List.setIfInBounds_toArray, List.set_cons_zero, List.set_cons_succ]
            refine wpAnyH_norm (l2 := #[true, true, true, true, true, true, true, true, true, true, true, true, false, true, true, false, true, true, true, false, true, true, true, false, false, true, false, false, true, false, false, false]) (f2 := 10) (by kernel_rfl) (by kernel_rfl) ?_
            exact KEY200.out (a1, c1, a2, c2) U ⟨hB2, CH2⟩
          · go_simp
            have hb := below1 u (Obj.cells #[.slice (some ⟨gK, 0, none⟩) n cl, .slice (some ⟨gK, 0, none⟩) n cl] 22)
            have hB2 := below_call hB hb
            refine hK.out _ _ (HX.out _ hB2) (fun _ => ?_)
            clear hK K
            simp only [List.getElem_toArray, List.getElem_cons_succ, List.getElem_cons_zero, Act.put, List.setIfInBounds_toArray, List.set_cons_zero, List.set_cons_succ]
            obtain ⟨g23, hg⟩ : ∃ g, g = u.heap.size := ⟨_, rfl⟩
            rw [← hg]
            refine wpAnyH_norm (l2 := #[true, true, true, true, true, true, true, true, false, true, true, true, false, true, true, false, true, true, true, false, true, true, true, true, false, true, false, false, true, false, false, false]) (f2 := 10) (by kernel_rfl) (by kernel_rfl) ?_
            exact KEY110.out (a1, c1, g23) _ ⟨hB2, CH.later hb, ⟨by rw [hg]; simp [go_sem], by rw [hg]; simp [go_sem]⟩⟩
          · go_simp
            have hb := below1 u (Obj.cells #[.slice (some ⟨gK, 0, none⟩) n cl] 22)
            have hB2 := below_call hB hb
            refine hK.out _ _ (HX.out _ hB2) (fun _ => ?_)
            clear hK K
            simp only [List.getElem_toArray, List.getElem_cons_succ, List.getElem_cons_zero, Act.put, List.setIfInBounds_toArray, List.set_cons_zero, List.set_cons_succ]
            obtain ⟨g26, hg⟩ : ∃ g, g = u.heap.size := ⟨_, rfl⟩
            rw [← hg]
            refine wpAnyH_norm (l2 := #[true, true, true, true, true, true, true, true, false, true, true, true, false, true, true, false, true, true, true, false, true, true, true, false, false, true, true, false, true, false, false, false]) (f2 := 10) (by kernel_rfl) (by kernel_rfl) ?_
            exact KEY101.out (a1, c1, g26) _ ⟨hB2, CH.later hb, by rw [hg]; simp [go_sem]⟩
        simp only [List.getElem_toArray, List.getElem_cons_succ, List.getElem_cons_zero, Act.put, List.setIfInBounds_toArray, List.set_cons_zero, List.set_cons_succ] at KEY100
        refine share (Nat × Nat) 10 #[true, true, true, true, false, true, true, true, false, true, true, true, false, true, true, false, true, true, true, false, true, true, true, true, false, true, true, false, true, false, false, false] (fun a x => (a.put (some 86) (.slice (some ⟨x.1, 0, none⟩) 2 2)).put (some 89) (.slice (some ⟨x.2, 0, none⟩) 1 1)) (fun x u => Below u0.heap.size u0 u ∧ Chain u zA (base ++ []) ∧ (u.cell? ⟨x.1, 0, none⟩ = some (.slice (some ⟨gK, 0, none⟩) n cl) ∧ u.cell? ⟨x.1, 1, none⟩ = some (.slice (some ⟨gK, 0, none⟩) n cl)) ∧ u.cell? ⟨x.2, 0, none⟩ = some (.slice (some ⟨gK, 0, none⟩) n cl)) ?_ (fun KEY011 => ?_)
        · intro x u hpre
          obtain ⟨g23, g26⟩ := x
          obtain ⟨hB, CH, hc23, hc26⟩ := hpre
          have hHeld := HX.out _ hB
          simp only [List.getElem_toArray, List.getElem_cons_succ, List.getElem_cons_zero, Act.put, List.setIfInBounds_toArray, List.set_cons_zero, List.set_cons_succ]
          have KRu := KR.out.later hB
          have hzu := Nat.le_trans hz0.out hB.size
          refine wpAnyH_norm (l2 := #[true, true, true, true, false, true, true, true, false, true, true, true, false, true, true, false, true, true, true, false, true, true, true, true, false, true, true, false, true, false, false, false]) (f2 := 10) (by kernel_rfl) (by kernel_rfl) ?_
          refine wpAnyH_ready (rs := [4]) (by kernel_rfl) (by simp) ?_
          refine AllReadyH.cons rfl (fun K hK => ?_) AllReadyH.nil
          · go_simp
            go_wp2_with (first | (go_at_call 12; refine (put8 _ _ _ B v8 _ H8.out.1 KRu (by have := HN.out; omega)).mono ?_; rintro e U ⟨a1, c1, rfl, P, hb⟩))
            have hB2 := below_call hB hb
            have CH2 := CH.call hb P hzu
            rw [List.append_assoc] at CH2
            refine hK.out _ _ (HX.out _ hB2) (fun _ => ?_)
            clear hK K
            simp only [List.getElem_toArray, List.getElem_cons_succ, List.getElem_cons_zero, Act.put, List.setIfInBounds_toArray, List.set_cons_zero, List.set_cons_succ]
            refine wpAnyH_norm (l2 := #[true, true, true, true, true, true, true, true, false, true, true, true, false, true, true, false, true, true, true, false, true, true, true, true, false, true, true, false, true, false, false, false]) (f2 := 9) (by kernel_rfl) (by kernel_rfl) ?_
            exact KEY111.out (a1, c1, g23, g26) U ⟨hB2, CH2, ⟨cell_later hb hc23.1, cell_later hb hc23.2⟩, cell_later hb hc26⟩
        simp only [List.getElem_toArray, List.getElem_cons_succ, List.getElem_cons_zero, Act.put, List.setIfInBounds_toArray, List.set_cons_zero, List.set_cons_succ] at KEY011
        refine share (Nat) 11 #[true, true, true, true, false, true, true, true, false, true, true, true, false, true, true, false, true, true, true, false, true, true, true, false, false, true, true, false, true, false, false, false] (fun a x => a.put (some 89) (.slice (some ⟨x, 0, none⟩) 1 1)) (fun x u => Below u0.heap.size u0 u ∧ Chain u zA (base ++ []) ∧ u.cell? ⟨x, 0, none⟩ = some (.slice (some ⟨gK, 0, none⟩) n cl)) ?_ (fun KEY001 => ?_)
        · intro x u hpre
          obtain ⟨g26, hxx⟩ : ∃ y, y = x := ⟨_, rfl⟩
          subst hxx
          obtain ⟨hB, CH, hc26⟩ := hpre
          have hHeld := HX.out _ hB
          simp only [List.getElem_toArray, List.getElem_cons_succ, List.getElem_cons_zero, Act.put, List.setIfInBounds_toArray, List.set_cons_zero, List.set_cons_succ]
          have KRu := KR.out.later hB
          have hzu := Nat.le_trans hz0.out hB.size
          refine wpAnyH_norm (l2 := #[true, true, true, true, false, true, true, true, false, true, true, true, false, true, true, false, true, true, true, false, true, true, true, false, false, true, true, false, true, false, false, false]) (f2 := 11) (by kernel_rfl) (by kernel_rfl) ?_
          refine wpAnyH_ready (rs := [4, 23]) (by kernel_rfl) (by simp) ?_
          refine AllReadyH.cons rfl (fun K hK => ?_) (AllReadyH.cons rfl (fun K hK => ?_) AllReadyH.nil)
          · go_simp
            go_wp2_with (first | (go_at_call 12; refine (put8 _ _ _ B v8 _ H8.out.1 KRu (by have := HN.out; omega)).mono ?_; rintro e U ⟨a1, c1, rfl, P, hb⟩))
            have hB2 := below_call hB hb
            have CH2 := CH.call hb P hzu
            rw [List.append_assoc] at CH2
            refine hK.out _ _ (HX.out _ hB2) (fun _ => ?_)
            clear hK K
            simp only [List.getElem_toArray, List.getElem_cons_succ, List.getElem_cons_zero, Act.put, List.setIfInBounds_toArray, List.set_cons_zero, List.set_cons_succ]
            refine wpAnyH_norm (l2 := #[true, true, true, true, true, true, true, true, false, true, true, true, false, true, true, false, true, true, true, false, true, true, true, false, false, true, true, false, true, false, false, false]) (f2 := 10) (by kernel_rfl) (by kernel_rfl) ?_
            exact KEY101.out (a1, c1, g26) U ⟨hB2, CH2, cell_later hb hc26⟩
          · go_simp
            have hb := below1 u (Obj.cells #[.slice (some ⟨gK, 0, none⟩) n cl, .slice (some ⟨gK, 0, none⟩) n cl] 22)
            have hB2 := below_call hB hb
            refine hK.out _ _ (HX.out _ hB2) (fun _ => ?_)
            clear hK K
            simp only [List.getElem_toArray, List.getElem_cons_succ, List.getElem_cons_zero, Act.put, List.setIfInBounds_toArray, List.set_cons_zero, List.set_cons_succ]
            obtain ⟨g23, hg⟩ : ∃ g, g = u.heap.size := ⟨_, rfl⟩
            rw [← hg]
            refine wpAnyH_norm (l2 := #[true, true, true, true, false, true, true, true, false, true, true, true, false, true, true, false, true, true, true, false, true, true, true, true, false, true, true, false, true, false, false, false]) (f2 := 10) (by kernel_rfl) (by kernel_rfl) ?_
            exact KEY011.out (g23, g26) _ ⟨hB2, CH.later hb, ⟨by rw [hg]; simp [go_sem], by rw [hg]; simp [go_sem]⟩, cell_later hb hc26⟩
        simp only [List.getElem_toArray, List.getElem_cons_succ, List.getElem_cons_zero, Act.put, List.setIfInBounds_toArray, List.set_cons_zero, List.set_cons_succ] at KEY001
        refine share (Nat) 11 #[true, true, true, true, false, true, true, true, false, true, true, true, false, true, true, false, true, true, true, false, true, true, true, true, false, true, false, false, true, false, false, false] (fun a x => a.put (some 86) (.slice (some ⟨x, 0, none⟩) 2 2)) (fun x u => Below u0.heap.size u0 u ∧ Chain u zA (base ++ []) ∧ (u.cell? ⟨x, 0, none⟩ = some (.slice (some ⟨gK, 0, none⟩) n cl) ∧ u.cell? ⟨x, 1, none⟩ = some (.slice (some ⟨gK, 0, none⟩) n cl))) ?_ (fun KEY010 => ?_)
        · intro x u hpre
          obtain ⟨g23, hxx⟩ : ∃ y, y = x := ⟨_, rfl⟩
          subst hxx
          obtain ⟨hB, CH, hc23⟩ := hpre
          have hHeld := HX.out _ hB
          simp only [List.getElem_toArray, List.getElem_cons_succ, List.getElem_cons_zero, Act.put, List.setIfInBounds_toArray, List.set_cons_zero, List.set_cons_succ]
          have KRu := KR.out.later hB
          have hzu := Nat.le_trans hz0.out hB.size
          refine wpAnyH_norm (l2 := #[true, true, true, true, false, true, true, true, false, true, true, true, false, true, true, false, true, true, true, false, true, true, true, true, false, true, false, false, true, false, false, false]) (f2 := 11) (by kernel_rfl) (by kernel_rfl) ?_
          refine wpAnyH_ready (rs := [4, 26]) (by kernel_rfl) (by simp) ?_
          refine AllReadyH.cons rfl (fun K hK => ?_) (AllReadyH.cons rfl (fun K hK => ?_) AllReadyH.nil)
          · go_simp
            go_wp2_with (first | (go_at_call 12; refine (put8 _ _ _ B v8 _ H8.out.1 KRu (by have := HN.out; omega)).mono ?_; rintro e U ⟨a1, c1, rfl, P, hb⟩))
            have hB2 := below_call hB hb
            have CH2 := CH.call hb P hzu
            rw [List.append_assoc] at CH2
            refine hK.out _ _ (HX.out _ hB2) (fun _ => ?_)
            clear hK K
            simp only [List.getElem_toArray, List.getElem_cons_succ, List.getElem_cons_zero, Act.put, List.setIfInBounds_toArray, List.set_cons_zero, List.set_cons_succ]
            refine wpAnyH_norm (l2 := #[true, true, true, true, true, true, true, true, false, true, true, true, false, true, true, false, true, true, true, false, true, true, true, true, false, true, false, false, true, false, false, false]) (f2 := 10) (by kernel_rfl) (by kernel_rfl) ?_
            exact KEY110.out (a1, c1, g23) U ⟨hB2, CH2, ⟨cell_later hb hc23.1, cell_later hb hc23.2⟩⟩
          · go_simp
            have hb := below1 u (Obj.cells #[.slice (some ⟨gK, 0, none⟩) n cl] 22)
            have hB2 := below_call hB hb
            refine hK.out _ _ (HX.out _ hB2) (fun _ => ?_)
            clear hK K
            simp only [List.getElem_toArray, List.getElem_cons_succ, List.getElem_cons_zero, Act.put, List.setIfInBounds_toArray, List.set_cons_zero, List.set_cons_succ]
            obtain ⟨g26, hg⟩ : ∃ g, g = u.heap.size := ⟨_, rfl⟩
            rw [← hg]
            refine wpAnyH_norm (l2 := #[true, true, true, true, false, true, true, true, false, true, true, true, false, true, true, false, true, true, true, false, true, true, true, true, false, true, true, false, true, false, false, false]) (f2 := 10) (by kernel_rfl) (by kernel_rfl) ?_
            exact KEY011.out (g23, g26) _ ⟨hB2, CH.later hb, ⟨cell_later hb hc23.1, cell_later hb hc23.2⟩, by rw [hg]; simp [go_sem]⟩
        simp only [List.getElem_toArray, List.getElem_cons_succ, List.getElem_cons_zero, Act.put, List.setIfInBounds_toArray, List.set_cons_zero, List.set_cons_succ] at KEY010
        have hB := Below.refl u0.heap.size u0
        have CH := CH0.out
        rw [← List.append_nil base] at CH
        have KRu := KR.out.later hB
        have hzu := Nat.le_trans hz0.out hB.size
        refine wpAnyH_norm (l2 := #[true, true, true, true, false, true, true, true, false, true, true, true, false, true, true, false, true, true, true, false, true, true, true, false, false, true, false, false, true, false, false, false]) (f2 := 12) (by kernel_rfl) (by kernel_rfl) ?_
        refine wpAnyH_ready (rs := [4, 23, 26]) (by kernel_rfl) (by simp) ?_
        refine AllReadyH.cons rfl (fun K hK => ?_) (AllReadyH.cons rfl (fun K hK => ?_) (AllReadyH.cons rfl (fun K hK => ?_) AllReadyH.nil))
        · go_simp
          go_wp2_with (first | (go_at_call 12; refine (put8 _ _ _ B v8 _ H8.out.1 KRu (by have := HN.out; omega)).mono ?_; rintro e U ⟨a1, c1, rfl, P, hb⟩))
          have hB2 := below_call hB hb
          have CH2 := CH.call hb P hzu
          rw [List.append_assoc] at CH2
          refine hK.out _ _ (HX.out _ hB2) (fun _ => ?_)
          clear hK K
          simp only [List.getElem_toArray, List.getElem_cons_succ, List.getElem_cons_zero, Act.put, List.setIfInBounds_toArray, List.set_cons_zero, List.set_cons_succ]
          refine wpAnyH_norm (l2 := #[true, true, true, true, true, true, true, true, false, true, true, true, false, true, true, false, true, true, true, false, true, true, true, false, false, true, false, false, true, false, false, false]) (f2 := 11) (by kernel_rfl) (by kernel_rfl) ?_
          exact KEY100.out (a1, c1) U ⟨hB2, CH2⟩
        · go_simp
          have hb := below1 u0 (Obj.cells #[.slice (some ⟨gK, 0, none⟩) n cl, .slice (some ⟨gK, 0, none⟩) n cl] 22)
          have hB2 := below_call hB hb
          refine hK.out _ _ (HX.out _ hB2) (fun _ => ?_)
          clear hK K
          simp only [List.getElem_toArray, List.getElem_cons_succ, List.getElem_cons_zero, Act.put, List.setIfInBounds_toArray, List.set_cons_zero, List.set_cons_succ]
          obtain ⟨g23, hg⟩ : ∃ g, g = u0.heap.size := ⟨_, rfl⟩
          rw [← hg]
          refine wpAnyH_norm (l2 := #[true, true, true, true, false, true, true, true, false, true, true, true, false, true, true, false, true, true, true, false, true, true, true, true, false, true, false, false, true, false, false, false]) (f2 := 11) (by kernel_rfl) (by kernel_rfl) ?_
          exact KEY010.out g23 _ ⟨hB2, CH.later hb, ⟨by rw [hg]; simp [go_sem], by rw [hg]; simp [go_sem]⟩⟩
        · go_simp
          have hb := below1 u0 (Obj.cells #[.slice (some ⟨gK, 0, none⟩) n cl] 22)
          have hB2 := below_call hB hb
          refine hK.out _ _ (HX.out _ hB2) (fun _ => ?_)
          clear hK K
          simp only [List.getElem_toArray, List.getElem_cons_succ, List.getElem_cons_zero, Act.put, List.setIfInBounds_toArray, List.set_cons_zero, List.set_cons_succ]
          obtain ⟨g26, hg⟩ : ∃ g, g = u0.heap.size := ⟨_, rfl⟩
          rw [← hg]
          refine wpAnyH_norm (l2 := #[true, true, true, true, false, true, true, true, false, true, true, true, false, true, true, false, true, true, true, false, true, true, true, false, false, true, true, false, true, false, false, false]) (f2 := 11) (by kernel_rfl) (by kernel_rfl) ?_
          exact KEY001.out g26 _ ⟨hB2, CH.later hb, by rw [hg]; simp [go_sem]⟩
    · obtain rfl : i = 2 := by omega
      have hl18 := lists18 hrs
      obtain ⟨A, Lf, h8, hmv, hml⟩ := Eight.of hch hl18
      rw [hmv] at hall
      rw [hml] at hrs
      obtain ⟨hsame, h7B, h8B, hlens⟩ := lists_same hrs
      obtain ⟨gA, cA, rfl⟩ : ∃ gA cA, u9 = .slice (some ⟨gA, 0, none⟩) 18 cA := by
        rcases hall.2 with ⟨_, h0⟩ | ⟨g, c, cur, hv, _⟩
        · omega
        · exact ⟨g, c, hv⟩
      have HAll : Hid (wr.ownsRow zA 22 1 (.slice (some ⟨gA, 0, none⟩) 18 cA) 18 ((List.range 18).map (valA A))) := hall
      have HAt := AllAt.of hall
      have hcA : 18 ≤ cA := by
        rcases hall.2 with ⟨_, h0⟩ | ⟨g, c, cur, hv, _, _, hc, _⟩
        · omega
        · simp only [Value.slice.injEq] at hv; omega
      have H8E : Hid (Eight wr zA A Lf) := h8
      have HLs : Hid ((∀ i, i < 9 → Lf i = Lf (i + 9)) ∧ Lf 7 = B ∧ Lf 8 = B ∧ ∀ i, i < 18 → (Lf i).length ≤ 2097176) := ⟨hsame, h7B, h8B, fun i hi => by have := hlens i hi; have := HN.out; omega⟩
      have HK2 : Hid (Row wr a n cap B ∧ Lent wr w2.heap.size gK n cl B ∧ Below w.heap.size w wr ∧ zA ≤ wr.heap.size) := ⟨R0, K, hb0, hzw⟩
      have HAA : Hid (AllAt wr gA A) := HAt
      clear hrs hmv hml hch hall h8 hsame h7B h8B hlens R0 K X2 rd hb0 hzw HAt hl18
      simp only [Int.cast_ofNat_Int]
      rename World => W
      have BB : Below W.heap.size W W := Below.refl _ _
      go_wp2
      go_loopw [16] (fun t w' => ∃ i : Nat, i ≤ 9 ∧ t = .int .i64 (i : Int) ∧ Below W.heap.size W w') (fun t _ => 9 - (intOf t).toNat)
      case atStart => exact ⟨0, by omega, rfl, BB⟩
      case round =>
        clear BB
        obtain ⟨i, hi9, rfl, hB⟩ := hrel
        by_cases hlt2 : i < 9
        · have hd : decide ((i : Int) < 9) = true := by simp; omega
          have c1 := HAA.out.later hB i (by omega)
          have c2 := HAA.out.later hB (i + 9) (by omega)
          have ei9 : IntKind.i64.wrap ((i : Int) + 9) = (i : Int) + 9 := by rw [IntKind.wrap_i64]; omega
          have ei1 : IntKind.i64.wrap ((i : Int) + 1) = (i : Int) + 1 := by rw [IntKind.wrap_i64]; omega
          have eb1 : (i : Int) < 18 := by omega
          have eb2 : (i : Int) + 9 < 18 := by omega
          have eb3 : (0 : Int) ≤ (i : Int) + 9 := by omega
          have et : ((i : Int) + 9).toNat = i + 9 := by omega
          have HQ : Hid (∀ t, Row (wr.drewN t) (A i).1 (A i).2.1 (A i).2.2 (Lf i) ∧ Row (wr.drewN t) (A (i + 9)).1 (A (i + 9)).2.1 (A (i + 9)).2.2 (Lf i)) := fun t => by
            have e8 := H8E.out.later hB
            refine ⟨((e8.own i (by omega)).later (below_drewN (Below.refl _ _) t)).read, ?_⟩
            rw [HLs.out.1 i hlt2]
            exact ((e8.own (i + 9) (by omega)).later (below_drewN (Below.refl _ _) t)).read
          have HBn : Hid (∀ t, Below W.heap.size W (wr.drewN t)) := fun t => below_drewN hB t
          clear hB
          go_upto_region 20 with fail
          go_quiet (first | (go_at_call 18; refine Calls.quiet_of_same (same_eq _ _ _ _ _ _ _ _ (HQ.out _).1 (HQ.out _).2)))
          go_wp2
          go_roundw
          case rel => exact ⟨i + 1, by omega, by simp, HBn.out _⟩
          case measure => simp [intOf]; omega
        · obtain rfl : i = 9 := by omega
          simp only [Int.cast_ofNat_Int]
          have c7 := HAA.out.later hB 7 (by omega)
          have c8 := HAA.out.later hB 8 (by omega)
          have KX := HK2.out.2.1.later hB
          have RX := HK2.out.1.later hB
          have r7 : Row wr (A 7).1 (A 7).2.1 (A 7).2.2 B := by have := ((H8E.out.later hB).own 7 (by omega)).read; rwa [HLs.out.2.1] at this
          have r8 : Row wr (A 8).1 (A 8).2.1 (A 8).2.2 B := by have := ((H8E.out.later hB).own 8 (by omega)).read; rwa [HLs.out.2.2.1] at this
          go_upto_region 24 with (first | (go_at_call 19; refine (kept_any gK n cl _ _ _ _ B _ KX RX (by have := HN.out; omega)).mono ?_; rintro e ws ⟨rfl, rfl⟩) | (go_at_call 18; have hq_ := mk7; clear hq_; refine (same_eq _ _ _ _ _ _ _ _ r8 RX).mono ?_; rintro e ws ⟨rfl, rfl⟩) | (go_at_call 18; refine (same_eq _ _ _ _ _ _ _ _ r7 RX).mono ?_; rintro e ws ⟨rfl, rfl⟩; obtain ⟨mk7, _⟩ : ∃ m : Nat, m = 0 := ⟨0, rfl⟩))
          rename World => wr
          have HV : Hid (MarkRel wr zA gA cA A (mrk A Lf 0) wr ∧ Row wr a n cap B ∧ Lent wr w2.heap.size gK n cl B ∧ Below w.heap.size w wr ∧ zA ≤ wr.heap.size) := by
            refine ⟨⟨(H8E.out.later hB).congr (fun q _ => by unfold mrk; rw [if_neg (by omega)]), own_later hB HAll.out, Below.refl _ _⟩, RX, KX, below_call HK2.out.2.2.1 hB, Nat.le_trans HK2.out.2.2.2 hB.size⟩
          have HLn : Hid (∀ i, i < 18 → (Lf i).length = (A i).2.1 ∧ (A i).2.1 ≤ 2097176) := fun i hi => by
            have e1 := (H8E.out.own i hi).len
            have e2 := HLs.out.2.2.2 i hi
            exact ⟨e1, by omega⟩
          clear c7 c8 KX RX r7 r8 hB HK2 HAll H8E HLs HAA
          rename World => V
          go_wp2
          go_loopw [17] (fun t w' => ∃ i : Nat, i ≤ 18 ∧ t = .int .i64 (i : Int) ∧ MarkRel V zA gA cA A (mrk A Lf i) w') (fun t _ => 18 - (intOf t).toNat)
          case atStart => exact ⟨0, by omega, rfl, HV.out.1⟩
          case round =>
            obtain ⟨i, hi18, rfl, hM⟩ := hrel
            by_cases hlt3 : i < 18
            · have hd : decide ((i : Int) < 18) = true := by simp; omega
              have ei1 : IntKind.i64.wrap ((i : Int) + 1) = (i : Int) + 1 := by rw [IntKind.wrap_i64]; omega
              have eu1 : IntKind.u8.wrap ((i : Int) + 1) = (i : Int) + 1 := by rw [IntKind.wrap_u8]; omega
              have eb1 : (i : Int) < 18 := by omega
              have HM : Hid (MarkRel V zA gA cA A (mrk2 A Lf i 0) wr) := mark_in hM
              clear hM
              go_wp2
              go_loopw [18] (fun t w' => ∃ j : Nat, j ≤ (A i).2.1 ∧ t = .int .i64 (j : Int) ∧ MarkRel V zA gA cA A (mrk2 A Lf i j) w') (fun t _ => (A i).2.1 - (intOf t).toNat)
              case atStart => exact ⟨0, by omega, rfl, HM.out⟩
              case round =>
                clear HM
                obtain ⟨j, hj, rfl, hM⟩ := hrel
                have c1 := AllAt.of hM.2.1 i hlt3
                have ej1 : IntKind.i64.wrap ((j : Int) + 1) = (j : Int) + 1 := by have := HLn.out i hlt3; rw [IntKind.wrap_i64]; omega
                by_cases hltj : j < (A i).2.1
                · have hdj : decide ((j : Int) < ((A i).2.1 : Int)) = true := by simp; omega
                  have hdj2 : (j : Int) < ((A i).2.1 : Int) := by omega
                  obtain ⟨g, hg, hM2, x, hx⟩ := mark_step hM hlt3 hltj (HLn.out i hlt3).1 (Nat.le_trans HV.out.2.2.2.2 hM.2.2.size)
                  rw [hg] at c1
                  have x0 := hx.1
                  have x1 := hx.2
                  have HM2 : Hid (MarkRel V zA gA cA A (mrk2 A Lf i (j + 1)) (wr.setCell ⟨g, j, none⟩ (.int .u8 ((i : Int) + 1)))) := hM2
                  clear hM hM2 hx hg
                  go_wp2
                  go_roundw
                  case rel => exact ⟨j + 1, by omega, by simp, HM2.out⟩
                  case measure => simp [intOf]; omega
                · have hjn : j = (A i).2.1 := by omega
                  have hdj : decide ((j : Int) < ((A i).2.1 : Int)) = false := decide_eq_false (by omega)
                  have HM2 : Hid (MarkRel V zA gA cA A (mrk A Lf (i + 1)) wr) := mark_out hM hjn (by rw [hjn]; exact (HLn.out i hlt3).1)
                  clear hM hjn
                  go_wp2
                  go_roundw
                  case rel => exact ⟨i + 1, by omega, by simp, HM2.out⟩
                  case measure => simp [intOf]; omega
            · obtain rfl : i = 18 := by omega
              simp only [Int.cast_ofNat_Int]
              have hM18 := hM.1
              have HM18 : Hid (∀ q, q < 18 → mrk A Lf 18 q = List.replicate (A q).2.1 (q + 1)) := fun q hq => by unfold mrk; rw [if_pos hq]
              have HL0 : Hid (LongRel wr zA gA cA A A 0 (.slice none 0 0) wr) := by
                refine ⟨⟨rfl, .inl ⟨rfl, rfl⟩⟩, fun q hq => by omega, fun q _ hq => ?_, fun q hq => ?_, hM.2.1, Below.refl _ _⟩
                · have := hM.1.own q hq; rwa [HM18.out q hq] at this
                · have := (hM.1.own q hq).read; rwa [HM18.out q hq] at this
              have HAp : Hid ((∀ p q, p < 18 → q < 18 → p ≠ q → ∀ k, Blk (A p).1 k → ¬ Blk (A q).1 k) ∧ (∀ q, q < 18 → ∀ k, Blk (A q).1 k → k < wr.heap.size) ∧ gA < wr.heap.size ∧ zA ≤ wr.heap.size) := by
                refine ⟨hM.1.apart, fun q hq k hk => (hM.1.own q hq).lt k hk, ?_, Nat.le_trans HV.out.2.2.2.2 hM.2.2.size⟩
                exact World.block_lt_of_cell? _ _ (AllAt.of hM.2.1 0 (by omega))
              have HVQ : Hid (Row wr a n cap B ∧ Lent wr w2.heap.size gK n cl B ∧ Below w.heap.size w wr) := by
                obtain ⟨z1, z2, z3, z4, z5⟩ := HZ.out
                have hbt := but_of_below hM.2.2
                exact ⟨HV.out.2.1.but hbt (fun j hj hL e => by have := (HR00.out).blk_lt hL j hj; omega), HV.out.2.2.1.but' hbt (by omega), HV.out.2.2.2.1.trans (hM.2.2.mono (by omega))⟩
              clear hM hM18 HM18 HV
              rename World => Q
              go_wp2
              go_loopw [10, 19] (fun lv t w' => ∃ (i : Nat) (D : Nat → Option Addr × Nat × Nat), i ≤ 18 ∧ t = .int .i64 (i : Int) ∧ LongRel Q zA gA cA A D i lv w') (fun _ t _ => 18 - (intOf t).toNat)
              case atStart => exact ⟨0, A, by omega, rfl, HL0.out⟩
              case round =>
                clear HL0
                obtain ⟨i, D, hi18, rfl, hL⟩ := hrel
                by_cases hlt5 : i < 18
                · have hd : decide ((i : Int) < 18) = true := by simp; omega
                  have ei1 : IntKind.i64.wrap ((i : Int) + 1) = (i : Int) + 1 := by rw [IntKind.wrap_i64]; omega
                  have eu1 : IntKind.u8.wrap ((i : Int) + 1) = (i : Int) + 1 := by rw [IntKind.wrap_u8]; omega
                  have eb1 : (i : Int) < 18 := by omega
                  have c1 := AllAt.of hL.all i hlt5
                  obtain ⟨a2, c2, w5a, hrun1, v3, w5b, hrun2, D2, hL2⟩ := long_step hL hlt5 HAp.out.2.2.2 HAp.out.2.2.1 HAp.out.1 HAp.out.2.1 (HLn.out i hlt5).2
                  have HR1 : Hid _ := hrun1
                  have HR2 : Hid _ := hrun2
                  have HL2 : Hid (LongRel Q zA gA cA A D2 (i + 1) v3 w5b) := hL2
                  clear hL hrun1 hrun2 hL2
                  go_wp2_with (first | (at_builtin; have hq_ := mk5; clear hq_; refine wpList_append_known rfl _ _ 32 rfl _ _ rfl rfl _ w5b HR2.out ?_) | (at_builtin; refine wpList_append_known rfl _ _ 22 rfl _ _ rfl rfl _ w5a HR1.out ?_; obtain ⟨mk5, _⟩ : ∃ m : Nat, m = 0 := ⟨0, rfl⟩))
                  go_roundw
                  case rel => exact ⟨i + 1, D2, by omega, by simp, HL2.out⟩
                  case measure => simp [intOf]; omega
                · obtain rfl : i = 18 := by omega
                  simp only [Int.cast_ofNat_Int]
                  obtain ⟨gL, cL, rfl⟩ : ∃ gL cL, u10 = .slice (some ⟨gL, 0, none⟩) 18 cL := by
                    rcases hL.lng.2 with ⟨_, h0⟩ | ⟨g, c, cur, hv, _⟩
                    · omega
                    · exact ⟨g, c, hv⟩
                  have HC : Hid (∀ i, i < 18 → wr.cell? ⟨gA, i, none⟩ = some (.slice (A i).1 (A i).2.1 (A i).2.2) ∧ wr.cell? ⟨gL, i, none⟩ = some (.slice (D i).1 ((A i).2.1 + 1) (D i).2.2) ∧ (∃ g2, (D i).1 = some ⟨g2, 0, none⟩ ∧ ∀ j, j < (A i).2.1 + 1 → wr.cell? ⟨g2, j, none⟩ = some (.int .u8 ((i : Int) + 1))) ∧ (0 < (A i).2.1 → ∃ g1 o1, (A i).1 = some ⟨g1, o1, none⟩ ∧ ∀ j, j < (A i).2.1 → wr.cell? ⟨g1, o1 + j, none⟩ = some (.int .u8 ((i : Int) + 1)))) := fun i hi => by
                    obtain ⟨p1, p2, _⟩ := hL.own i hi
                    have hcast : (((i + 1 : Nat)) : Int) = (i : Int) + 1 := by simp
                    refine ⟨AllAt.of hL.all i hi, ?_, ?_, fun hpos => ?_⟩
                    · have := hL.lng.cells (g := gL) rfl i (valA D i) (by simp [hi])
                      rw [addr_add0] at this
                      unfold valA at this
                      rw [p1] at this
                      exact this
                    · obtain ⟨b, o, he, hcell⟩ := p2.read.plain (by omega)
                      obtain ⟨g2, hg2⟩ : ∃ g2, (D i).1 = some ⟨g2, 0, none⟩ := by
                        rcases p2.row.2 with ⟨h0, h1⟩ | ⟨g, c', cur, hv, _⟩
                        · omega
                        · simp only [Value.slice.injEq] at hv; exact ⟨g, hv.1⟩
                      rw [hg2] at he
                      simp only [Option.some.injEq, Addr.mk.injEq] at he
                      obtain ⟨rfl, rfl, _⟩ := he
                      refine ⟨g2, hg2, fun j hj => ?_⟩
                      have := hcell j (by simpa using hj)
                      rw [Nat.zero_add, List.getElem_replicate, hcast] at this
                      exact this
                    · obtain ⟨b, o, he, hcell⟩ := (hL.rows i hi).plain hpos
                      refine ⟨b, o, he, fun j hj => ?_⟩
                      have := hcell j (by simpa using hj)
                      rw [List.getElem_replicate, hcast] at this
                      exact this
                  have HVR : Hid (Row wr a n cap B ∧ Lent wr w2.heap.size gK n cl B ∧ Below w.heap.size w wr) := by
                    obtain ⟨z1, z2, z3, z4, z5⟩ := HZ.out
                    have hbt := but_of_below hL.bel
                    exact ⟨HVQ.out.1.but hbt (fun j hj hL e => by have := (HR00.out).blk_lt hL j hj; omega), HVQ.out.2.1.but' hbt (by omega), HVQ.out.2.2.trans (hL.bel.mono (by omega))⟩
                  clear hL HVQ HAp
                  rename World => Y
                  go_wp2
                  go_loopw [20] (fun t w' => ∃ i : Nat, i ≤ 18 ∧ t = .int .i64 (i : Int) ∧ Y = w') (fun t _ => 18 - (intOf t).toNat)
                  case atStart => exact ⟨0, by omega, rfl, rfl⟩
                  case round =>
                    obtain ⟨i, hi18, rfl, rfl⟩ := hrel
                    by_cases hlt6 : i < 18
                    · have hd : decide ((i : Int) < 18) = true := by simp; omega
                      have ei1 : IntKind.i64.wrap ((i : Int) + 1) = (i : Int) + 1 := by rw [IntKind.wrap_i64]; omega
                      have eu1 : IntKind.u8.wrap ((i : Int) + 1) = (i : Int) + 1 := by rw [IntKind.wrap_u8]; omega
                      have eb1 : (i : Int) < 18 := by omega
                      obtain ⟨c1, c2, ⟨g2, hg2, hc2⟩, hc1⟩ := HC.out i hlt6
                      rw [hg2] at c2
                      have HC2 : Hid (∀ j, j < (A i).2.1 + 1 → Y.cell? ⟨g2, j, none⟩ = some (.int .u8 ((i : Int) + 1))) := hc2
                      have HC1 : Hid (0 < (A i).2.1 → ∃ g1 o1, (A i).1 = some ⟨g1, o1, none⟩ ∧ ∀ j, j < (A i).2.1 → Y.cell? ⟨g1, o1 + j, none⟩ = some (.int .u8 ((i : Int) + 1))) := hc1
                      have hAn := (HLn.out i hlt6).2
                      clear hc2 hc1 hg2
                      go_wp2
                      go_loopw [21] (fun t w' => ∃ j : Nat, j ≤ (A i).2.1 + 1 ∧ t = .int .i64 (j : Int) ∧ Y = w') (fun t _ => (A i).2.1 + 1 - (intOf t).toNat)
                      case atStart => exact ⟨0, by omega, rfl, rfl⟩
                      case round =>
                        obtain ⟨j, hj, rfl, rfl⟩ := hrel
                        have ej1 : IntKind.i64.wrap ((j : Int) + 1) = (j : Int) + 1 := by rw [IntKind.wrap_i64]; omega
                        by_cases hltj : j < (A i).2.1 + 1
                        · have hdj : decide ((j : Int) < ((A i).2.1 : Int) + 1) = true := by simp; omega
                          have hdj2 : (j : Int) < ((A i).2.1 : Int) + 1 := by omega
                          have hcl := HC2.out j hltj
                          by_cases hs : j < (A i).2.1
                          · have hds : decide ((j : Int) < ((A i).2.1 : Int)) = true := by simp; omega
                            have hds2 : (j : Int) < ((A i).2.1 : Int) := by omega
                            obtain ⟨g1, o1, hg1, hcc⟩ := HC1.out (by omega)
                            have hcc2 := hcc j hs
                            rw [hg1] at c1
                            clear hcc hg1
                            go_wp2
                            go_roundw
                            case rel => exact ⟨j + 1, by omega, by simp, trivial⟩
                            case measure => simp [intOf]; omega
                          · have hds : decide ((j : Int) < ((A i).2.1 : Int)) = false := decide_eq_false (by omega)
                            go_wp2
                            go_roundw
                            case rel => exact ⟨j + 1, by omega, by simp, trivial⟩
                            case measure => simp [intOf]; omega
                        · have hdj : decide ((j : Int) < ((A i).2.1 : Int) + 1) = false := decide_eq_false (by omega)
                          go_wp2
                          go_roundw
                          case rel => exact ⟨i + 1, by omega, by simp, trivial⟩
                          case measure => simp [intOf]; omega
                    · obtain rfl : i = 18 := by omega
                      simp only [Int.cast_ofNat_Int]
                      obtain ⟨RY, KY, hbY⟩ := HVR.out
                      clear HC HVR
                      go_upto_region 45 with (first | (go_at_call 19; refine (kept_any gK n cl _ _ _ _ B _ KY RY (by have := HN.out; omega)).mono ?_; rintro e ws ⟨rfl, rfl⟩))
                      rename World => Y
                      have HY : Hid (Lent Y w2.heap.size gK n cl B ∧ Below w.heap.size w Y) := ⟨KY, hbY⟩
                      clear KY RY hbY
                      go_wp2
                      go_loopw [22] (fun t w' => ∃ (i : Nat) (B2 : List Nat), i ≤ n ∧ t = .int .i64 (i : Int) ∧ Lent w' w2.heap.size gK n cl B2 ∧ But (· = gK) Y w') (fun t _ => n - (intOf t).toNat)
                      case atStart => exact ⟨0, B, by omega, rfl, HY.out.1, But.refl _ _⟩
                      case round =>
                        obtain ⟨i, B2, hi8, rfl, hK, hbt⟩ := hrel
                        have ei1 : i < n → IntKind.i64.wrap ((i : Int) + 1) = (i : Int) + 1 := fun _ => by have := HN.out; rw [IntKind.wrap_i64]; omega
                        by_cases hlt8 : i < n
                        · have hd : decide ((i : Int) < (n : Int)) = true := by simp; omega
                          have hd2 : (i : Int) < (n : Int) := by omega
                          have ei := ei1 hlt8
                          obtain ⟨xc, hxc, hxe⟩ := xor8 ((B2.getD i 0 : Nat) : Int) 255
                          obtain ⟨hK2, hx⟩ := hK.set hlt8 hxc
                          have x0 := hx.1
                          have x1 := hx.2
                          have HK8 : Hid (Lent (wr.setCell ⟨gK, i, none⟩ (.int .u8 (xc : Int))) w2.heap.size gK n cl (B2.set i xc) ∧ But (· = gK) Y (wr.setCell ⟨gK, i, none⟩ (.int .u8 (xc : Int)))) := ⟨hK2, hbt.setCell (p := ⟨gK, i, none⟩) rfl _⟩
                          obtain ⟨xv, hxv⟩ : ∃ xv, xv = ((B2.getD i 0 : Nat) : Int) := ⟨_, rfl⟩
                          rw [← hxv] at x0 hxe
                          clear hK hbt hK2 hx ei1 hxv
                          go_wp2
                          go_roundw
                          case rel => exact ⟨i + 1, _, by omega, by simp, HK8.out.1, HK8.out.2⟩
                          case measure => simp [intOf]; omega
                        · have hd : decide ((i : Int) < (n : Int)) = false := decide_eq_false (by omega)
                          have hbw : Below w.heap.size w wr := But.below HY.out.2 hbt (fun k hk => by have := HZ.out; omega)
                          have KR := hK.row
                          obtain ⟨a9, c9, w9, hrun9, O9, hg9⟩ := append_any (Own.nil wr wr.heap.size) KR (Nat.le_refl _) (by have := HN.out; omega)
                          have hb9 : Below wr.heap.size wr w9 := hg9.below (Own.nil wr wr.heap.size) (Nat.le_refl _)
                          rw [Nat.zero_add] at hrun9 O9
                          rw [List.nil_append] at O9
                          have HRUN9 : Hid _ := hrun9
                          replace KR := KR.later hb9
                          replace hbw := below_call hbw hb9
                          have OR := O9.read
                          clear hrun9 hK hbt hg9 hb9 ei1 O9
                          go_upto_region 51 with (first | (at_builtin; refine wpList_append_known rfl _ _ 22 rfl _ _ rfl rfl _ w9 HRUN9.out ?_))
                          clear HRUN9
                          go_wp2_with (first | (go_at_call 15; refine (put64 _ _ _ B2 v _ hv KR (by have := HN.out; omega)).mono ?_; rintro e y1 ⟨p1, d1, rfl, P1, hb⟩; replace hbw := below_call hbw hb; replace KR := KR.later hb; replace OR := OR.later hb; clear hb) | (go_at_call 20; refine (rput_any _ _ _ B2 v 8 _ (by omega) hv OR (by have := HN.out; omega)).mono ?_; rintro e y2 ⟨p2, d2, rfl, P2, hb⟩; replace hbw := below_call hbw hb; replace KR := KR.later hb; replace OR := OR.later hb; replace P1 := P1.later hb; clear hb) | (go_at_call 17; refine (join2 _ _ _ _ _ _ B2 B2 _ _ rfl KR KR (by have := HN.out; omega)).mono ?_; rintro e y3 ⟨p3, d3, rfl, P3, hb⟩; replace hbw := below_call hbw hb; replace OR := OR.later hb; clear hb) | (go_at_call 21; refine (rjoin2 _ _ _ _ _ _ B2 B2 _ _ rfl OR OR (by have := HN.out; omega)).mono ?_; rintro e y4 ⟨p4, d4, rfl, P4, hb⟩; replace hbw := below_call hbw hb; replace P3 := P3.later hb; clear hb) | (go_at_call 18; have hq_ := P4; clear hq_; refine (same_eq _ _ _ _ _ _ _ _ P3.read P4.read).mono ?_; rintro e ws ⟨rfl, rfl⟩) | (go_at_call 18; refine (same_eq _ _ _ _ _ _ _ _ P1.read P2.read).mono ?_; rintro e ws ⟨rfl, rfl⟩))
                          go_ret
                          exact ⟨rfl, hbw⟩
end Go.Proofs.Ytjncgpekmilpeaa
