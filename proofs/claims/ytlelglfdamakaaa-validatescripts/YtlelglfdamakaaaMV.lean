import Derived.Test.YtlelglfdamakaaaV1
import Derived.Test.YtlelglfdamakaaaMC
import Derived.Test.YtlelglfdamakaaaMN
import Derived.Laws.Bits128
import Derived.Laws.BitsAllLaws
namespace Go.Proofs.Ytlelglfdamakaaa
open Go.RowKit H
set_option linter.unusedVariables false

/-! ### Package mask -/
theorem i64_and_nat (a b : Nat) (ha : a < 32) (hb : b < 32) : bits .and .i64 (a : Int) (b : Int) = ((a &&& b : Nat) : Int) := by
  have hx : a &&& b < 2 ^ 5 := Nat.and_lt_two_pow _ (by omega)
  show IntKind.i64.wrap ((BitVec.ofInt 64 (a : Int) &&& BitVec.ofInt 64 (b : Int)).toNat : Int) = _
  rw [BitVec.toNat_and, BitVec.ofInt_natCast, BitVec.ofInt_natCast, BitVec.toNat_ofNat, BitVec.toNat_ofNat, Nat.mod_eq_of_lt (a := a) (by omega), Nat.mod_eq_of_lt (a := b) (by omega), IntKind.wrap_i64]
  omega
theorem valid_nat {r : Int} (h : validB r = true) : ∃ n : Nat, r = (n : Int) ∧ 1 ≤ n ∧ n < 32 := by
  have := validB_iff.1 h
  exact ⟨r.toNat, by omega, by omega, by omega⟩
theorem beq_nat (x y : Nat) : ((x : Int) == (y : Int)) = decide (x = y) := by
  by_cases h : x = y
  · subst h; simp
  · rw [decide_eq_false h]
    simp
    omega
theorem valid_any (r : Int) (w : World) :
    Calls Try.prog 28 #[.int .i64 r] w fun e w' => e = .returned (.bool (validB r)) ∧ w' = w := by
  by_cases h1 : 0 < r
  · by_cases h2 : r ≤ 31
    · have hz : validB r = true := decide_eq_true (by omega)
      rw [hz]; clear hz
      go_enter Try.func28, Try.ntmps28
      go_wp2
      go_ret
      exact ⟨rfl, rfl⟩
    · have hz : validB r = false := decide_eq_false (by omega)
      rw [hz]; clear hz
      go_enter Try.func28, Try.ntmps28
      go_wp2
      go_ret
      exact ⟨rfl, rfl⟩
  · have hz : validB r = false := decide_eq_false (by omega)
    rw [hz]; clear hz
    go_enter Try.func28, Try.ntmps28
    go_wp2
    go_ret
    exact ⟨rfl, rfl⟩
theorem part_any (a b : Int) (w : World) :
    Calls Try.prog 33 #[.int .i64 a, .int .i64 b] w fun e w' => e = .returned (.bool (partB a b)) ∧ w' = w := by
  by_cases h1 : validB a = true
  · by_cases h2 : validB b = true
    · obtain ⟨n, rfl, _, hn⟩ := valid_nat h1
      obtain ⟨m, rfl, _, hm⟩ := valid_nat h2
      have hb := i64_and_nat n m hn hm
      have HP : Hid (partB (n : Int) (m : Int) = decide (n &&& m = n)) := by unfold Hid partB; rw [h1, h2]; simp
      go_enter Try.func33, Try.ntmps33
      go_wp2_with (first | (go_at_call 28; refine (valid_any _ _).mono ?_; rintro e w1 ⟨rfl, rfl⟩))
      go_ret
      refine ⟨?_, rfl⟩
      rw [HP.out]
      apply ret_bool
      exact beq_nat _ _
    · have h2 : validB b = false := by simpa using h2
      have hz : partB a b = false := by unfold partB; rw [h2]; simp
      rw [hz]; clear hz
      go_enter Try.func33, Try.ntmps33
      go_wp2_with (first | (go_at_call 28; refine (valid_any _ _).mono ?_; rintro e w1 ⟨rfl, rfl⟩))
      go_ret
      exact ⟨rfl, rfl⟩
  · have h1 : validB a = false := by simpa using h1
    have hz : partB a b = false := by unfold partB; rw [h1]; simp
    rw [hz]; clear hz
    go_enter Try.func33, Try.ntmps33
    go_wp2_with (first | (go_at_call 28; refine (valid_any _ _).mono ?_; rintro e w1 ⟨rfl, rfl⟩))
    go_ret
    exact ⟨rfl, rfl⟩

/-! ### A catalogue in memory -/
/-- Where a catalogue's parts lie: itself, the table, its places, the entries, the forest, its nodes; how many places. -/
structure Ad where
  g : Nat
  tg : Nat
  tb : Nat
  eb : Nat
  kg : Nat
  kb : Nat
  N : Nat
/-- The blocks that are written. -/
def Ad.Wr (A : Ad) (k : Nat) : Prop := k = A.tg ∨ k = A.tb ∨ k = A.eb ∨ k = A.kb
/-- All its blocks. -/
def Ad.All (A : Ad) (k : Nat) : Prop := k = A.g ∨ k = A.kg ∨ A.Wr k
structure Ad.Dis (A : Ad) : Prop where
  d1 : A.tg ≠ A.g
  d2 : A.tb ≠ A.g
  d3 : A.eb ≠ A.g
  d4 : A.kb ≠ A.g
  d5 : A.tg ≠ A.eb
  d6 : A.tb ≠ A.eb
  d7 : A.tg ≠ A.kg
  d8 : A.tb ≠ A.kg
  d9 : A.tg ≠ A.kb
  da : A.tb ≠ A.kb
  db : A.eb ≠ A.kg
  dc : A.eb ≠ A.kb
/-- An entry in memory. -/
structure Pe (w : World) (b o : Nat) (x : Tk) : Prop where
  c0 : w.cell? ⟨b, o, none⟩ = some (.int .i64 x.1.1)
  c1 : w.cell? ⟨b, o + 1, none⟩ = some (.int .u64 (x.1.2.1 : Int))
  c2 : w.cell? ⟨b, o + 2, none⟩ = some (.int .u64 (x.1.2.2 : Int))
  c3 : w.cell? ⟨b, o + 3, none⟩ = some (.int .i64 x.2)
theorem Pe.but {S : Nat → Prop} {w w' : World} {b o : Nat} {x : Tk} (hb : But S w w') (h : Pe w b o x) (hn : ¬ S b) : Pe w' b o x :=
  ⟨cell_but hb h.c0 hn, cell_but hb h.c1 hn, cell_but hb h.c2 hn, cell_but hb h.c3 hn⟩
theorem Pe.later {w w' : World} {b o : Nat} {x : Tk} (hb : Below w.heap.size w w') (h : Pe w b o x) : Pe w' b o x := h.but (S := fun _ => False) (But.of hb) (fun h => h)
theorem Pe.off {w : World} {b o o' : Nat} {x : Tk} {u : Value} (h : Pe w b o x) (hne : o' < o ∨ o + 4 ≤ o') : Pe (w.setCell ⟨b, o', none⟩ u) b o x :=
  ⟨cell_ne h.c0 (by omega), cell_ne h.c1 (by omega), cell_ne h.c2 (by omega), cell_ne h.c3 (by omega)⟩
/-- A whole entry is written. -/
def setE (w : World) (b o : Nat) (x : Tk) : World :=
  (((w.setCell ⟨b, o, none⟩ (.int .i64 x.1.1)).setCell ⟨b, o + 1, none⟩ (.int .u64 (x.1.2.1 : Int))).setCell ⟨b, o + 2, none⟩ (.int .u64 (x.1.2.2 : Int))).setCell ⟨b, o + 3, none⟩ (.int .i64 x.2)
theorem setE_but {S : Nat → Prop} {a w : World} (h : But S a w) {b : Nat} (hb : S b) (o : Nat) (x : Tk) : But S a (setE w b o x) :=
  (((h.setCell (p := ⟨b, o, none⟩) hb _).setCell (p := ⟨b, o + 1, none⟩) hb _).setCell (p := ⟨b, o + 2, none⟩) hb _).setCell (p := ⟨b, o + 3, none⟩) hb _
theorem Pe.set {w : World} {b o : Nat} {y : Tk} (h : Pe w b o y) (x : Tk) : Pe (setE w b o x) b o x := by
  unfold setE
  refine ⟨?_, ?_, ?_, ?_⟩
  · exact cell_ne (cell_ne (cell_ne (World.cell?_setCell_same _ _ _ h.c0) (by omega)) (by omega)) (by omega)
  · exact cell_ne (cell_ne (World.cell?_setCell_same _ _ _ (cell_ne h.c1 (by omega))) (by omega)) (by omega)
  · exact cell_ne (World.cell?_setCell_same _ _ _ (cell_ne (cell_ne h.c2 (by omega)) (by omega))) (by omega)
  · exact World.cell?_setCell_same _ _ _ (cell_ne (cell_ne (cell_ne h.c3 (by omega)) (by omega)) (by omega))
theorem Pe.setOff {w : World} {b o o' : Nat} {y : Tk} (h : Pe w b o y) (x : Tk) (hne : o' + 4 ≤ o ∨ o + 4 ≤ o') : Pe (setE w b o' x) b o y := by
  unfold setE
  exact (((h.off (by omega)).off (by omega)).off (by omega)).off (by omega)

/-- A catalogue in memory: the table's pairs T, the entries X, the forest l. -/
structure Cm (w : World) (A : Ad) (kn mo : Nat) (T : List (Cp × Int)) (X : List Tk) (l : Fo) : Prop where
  c0 : w.cell? ⟨A.g, 0, none⟩ = some (.pointer (some ⟨A.tg, 0, none⟩))
  c1 : w.cell? ⟨A.g, 1, none⟩ = some (.slice (some ⟨A.eb, 0, none⟩) mo mo)
  c2 : w.cell? ⟨A.g, 2, none⟩ = some (.pointer (some ⟨A.kg, 0, none⟩))
  tab : I.Tb w A.tg A.tb kn mo A.N T
  kin : Ki w A.kg A.kb mo l
  ent : ∀ (i : Nat) (x : Tk), X[i]? = some x → Pe w A.eb (i * 4) x
  fr : ∀ j, w.frozen? ⟨A.eb, j, none⟩ = false
  lte : A.eb < w.heap.size
  len : X.length = mo
  dis : A.Dis
theorem Cm.but {S : Nat → Prop} {w w' : World} {A : Ad} {kn mo : Nat} {T : List (Cp × Int)} {X : List Tk} {l : Fo} (hb : But S w w') (h : Cm w A kn mo T X l) (hS : ∀ k, A.All k → ¬ S k) : Cm w' A kn mo T X l :=
  ⟨cell_but hb h.c0 (hS _ (.inl rfl)), cell_but hb h.c1 (hS _ (.inl rfl)), cell_but hb h.c2 (hS _ (.inl rfl)), h.tab.but hb (hS _ (.inr (.inr (.inl rfl)))) (hS _ (.inr (.inr (.inr (.inl rfl))))), h.kin.but hb (hS _ (.inr (.inl rfl))) (hS _ (.inr (.inr (.inr (.inr (.inr rfl)))))),
    fun i x hx => (h.ent i x hx).but hb (hS _ (.inr (.inr (.inr (.inr (.inl rfl)))))), fun j => by rw [World.frozen?_of_block (w := w) (hb.block A.eb h.lte (hS _ (.inr (.inr (.inr (.inr (.inl rfl)))))))]; exact h.fr j, Nat.lt_of_lt_of_le h.lte hb.size, h.len, h.dis⟩
theorem Cm.later {w w' : World} {A : Ad} {kn mo : Nat} {T : List (Cp × Int)} {X : List Tk} {l : Fo} (hb : Below w.heap.size w w') (h : Cm w A kn mo T X l) : Cm w' A kn mo T X l := h.but (S := fun _ => False) (But.of hb) (fun _ _ h => h)
theorem Ki.lt1 {w : World} {g gb m : Nat} {l : Fo} (h : Ki w g gb m l) : g < w.heap.size ∧ gb < w.heap.size := by
  obtain ⟨N, h1, h2⟩ := h
  exact ⟨h1.lt, h1.lt2⟩
theorem Cm.lt {w : World} {A : Ad} {kn mo : Nat} {T : List (Cp × Int)} {X : List Tk} {l : Fo} (h : Cm w A kn mo T X l) : ∀ k, A.All k → k < w.heap.size := by
  rintro k (rfl | rfl | rfl | rfl | rfl | rfl)
  · exact World.block_lt_of_cell? _ _ h.c0
  · exact h.kin.lt1.1
  · exact h.tab.lt
  · exact h.tab.lt2
  · exact h.lte
  · exact h.kin.lt1.2
theorem Cm.small {w : World} {A : Ad} {kn mo : Nat} {T : List (Cp × Int)} {X : List Tk} {l : Fo} (h : Cm w A kn mo T X l) : mo ≤ 512 := h.tab.small
/-- The table has changed. -/
theorem Cm.setT {w w' : World} {A : Ad} {kn mo : Nat} {T T' : List (Cp × Int)} {X : List Tk} {l : Fo} (h : Cm w A kn mo T X l) (hb : But (I.In A.tg A.tb) w w') (ht : I.Tb w' A.tg A.tb kn mo A.N T') : Cm w' A kn mo T' X l := by
  have d := h.dis
  have n1 : ¬ I.In A.tg A.tb A.g := by rintro (e | e); exact d.d1 e.symm; exact d.d2 e.symm
  have n2 : ¬ I.In A.tg A.tb A.eb := by rintro (e | e); exact d.d5 e.symm; exact d.d6 e.symm
  exact ⟨cell_but hb h.c0 n1, cell_but hb h.c1 n1, cell_but hb h.c2 n1, ht, h.kin.but hb (by rintro (e | e); exact d.d7 e.symm; exact d.d8 e.symm) (by rintro (e | e); exact d.d9 e.symm; exact d.da e.symm),
    fun i x hx => (h.ent i x hx).but hb n2, fun j => by rw [World.frozen?_of_block (w := w) (hb.block A.eb h.lte n2)]; exact h.fr j, Nat.lt_of_lt_of_le h.lte hb.size, h.len, d⟩
/-- The forest has changed. -/
theorem Cm.setK {w w' : World} {A : Ad} {kn mo : Nat} {T : List (Cp × Int)} {X : List Tk} {l l' : Fo} (h : Cm w A kn mo T X l) (hb : But (· = A.kb) w w') (hk : Ki w' A.kg A.kb mo l') : Cm w' A kn mo T X l' := by
  have d := h.dis
  exact ⟨cell_but hb h.c0 (fun e => d.d4 e.symm), cell_but hb h.c1 (fun e => d.d4 e.symm), cell_but hb h.c2 (fun e => d.d4 e.symm), h.tab.but hb d.d9 d.da, hk,
    fun i x hx => (h.ent i x hx).but hb d.dc, fun j => by rw [World.frozen?_of_block (w := w) (hb.block A.eb h.lte d.dc)]; exact h.fr j, Nat.lt_of_lt_of_le h.lte hb.size, h.len, d⟩
/-- An entry is written. -/
theorem Cm.setX {w : World} {A : Ad} {kn mo : Nat} {T : List (Cp × Int)} {X : List Tk} {l : Fo} (h : Cm w A kn mo T X l) {i : Nat} (hi : i < mo) (x : Tk) : Cm (setE w A.eb (i * 4) x) A kn mo T (X.set i x) l := by
  have d := h.dis
  have hb : But (· = A.eb) w (setE w A.eb (i * 4) x) := setE_but (S := (· = A.eb)) (But.refl _ _) rfl _ _
  obtain ⟨y, hy⟩ := get_some (L := X) (i := i) (by rw [h.len]; exact hi)
  refine ⟨cell_but hb h.c0 (fun e => d.d3 e.symm), cell_but hb h.c1 (fun e => d.d3 e.symm), cell_but hb h.c2 (fun e => d.d3 e.symm), h.tab.but hb d.d5 d.d6, h.kin.but hb (fun e => d.db e.symm) (fun e => d.dc e.symm), fun j z hz => ?_, fun j => by simpa [setE] using h.fr j, Nat.lt_of_lt_of_le h.lte hb.size, by rw [List.length_set]; exact h.len, d⟩
  rcases Go.Proofs.Ytlelglfdamakaaa.get_set hz with ⟨rfl, rfl⟩ | ⟨hne, h3⟩
  · exact (h.ent _ y hy).set _
  · exact (h.ent _ _ h3).setOff _ (by omega)
theorem Cm.at_ {w : World} {A : Ad} {kn mo : Nat} {T : List (Cp × Int)} {X : List Tk} {l : Fo} (h : Cm w A kn mo T X l) {i : Nat} (hi : i < mo) : Pe w A.eb (i * 4) (tk X (i : Int)) := by
  obtain ⟨y, hy⟩ := get_some (L := X) (i := i) (by rw [h.len]; exact hi)
  have : tk X (i : Int) = y := by unfold tk; simp [hy]
  rw [this]
  exact h.ent i y hy

/-! ### The tree's and the table's small methods -/
set_option maxRecDepth 100000 in
set_option maxHeartbeats 1000000 in
theorem chas_any {w : World} {A : Ad} {kn mo : Nat} {T : List (Cp × Int)} {X : List Tk} {l : Fo} (h : Cm w A kn mo T X l) (n : Int) :
    Calls Try.prog 36 #[.pointer (some ⟨A.g, 2, none⟩), .int .i64 n] w fun e w' => e = .returned (.bool (decide (n ∈ nums l))) ∧ w' = w := by
  have hc := hid (has_any h.kin n)
  have x2 := h.c2
  clear h
  go_enter Try.func36, Try.ntmps36
  go_wp2_with (first | (go_at_call 59; refine hc.out.mono ?_; rintro e w1 ⟨rfl, rfl⟩))
  go_ret
  exact ⟨rfl, rfl⟩
set_option maxRecDepth 100000 in
set_option maxHeartbeats 1000000 in
theorem cpar_any {w : World} {A : Ad} {kn mo : Nat} {T : List (Cp × Int)} {X : List Tk} {l : Fo} (h : Cm w A kn mo T X l) (n p : Int) (hp : (n, p) ∈ l) :
    Calls Try.prog 53 #[.pointer (some ⟨A.g, 2, none⟩), .int .i64 n] w fun e w' => e = .returned (.int .i64 p) ∧ w' = w := by
  have hc := hid (parent_in h.kin n p hp)
  have x2 := h.c2
  clear h hp
  go_enter Try.func53, Try.ntmps53
  go_wp2_with (first | (go_at_call 71; refine hc.out.mono ?_; rintro e w1 ⟨rfl, rfl⟩))
  go_ret
  exact ⟨rfl, rfl⟩
theorem tb_len {w : World} {g gb kn mo N : Nat} {E : List (Cp × Int)} (h : I.Tb w g gb kn mo N E) : Calls Try.prog 69 #[.pointer (some ⟨g, 0, none⟩)] w fun e w' => e = .returned (.int .i64 (E.length : Int)) ∧ w' = w := by
  obtain ⟨L, sp, h⟩ := h
  exact I.len_any h.tm
set_option maxRecDepth 100000 in
set_option maxHeartbeats 1000000 in
theorem count_any {w : World} {A : Ad} {kn mo : Nat} {T : List (Cp × Int)} {X : List Tk} {l : Fo} (h : Cm w A kn mo T X l) :
    Calls Try.prog 19 #[.pointer (some ⟨A.g, 0, none⟩)] w fun e w' => e = .returned (.int .i64 (T.length : Int)) ∧ w' = w := by
  have hc := hid (tb_len h.tab)
  have x0 := h.c0
  clear h
  have hd : Calls Try.prog 47 #[.pointer (some ⟨A.g, 0, none⟩)] w fun e w' => e = .returned (.int .i64 (T.length : Int)) ∧ w' = w := by
    go_enter Try.func47, Try.ntmps47
    go_wp2_with (first | (go_at_call 69; refine hc.out.mono ?_; rintro e w1 ⟨rfl, rfl⟩))
    go_ret
    exact ⟨rfl, rfl⟩
  have hd := hid hd
  clear hc x0
  go_enter Try.func19, Try.ntmps19
  go_wp2_with (first | (go_at_call 47; refine hd.out.mono ?_; rintro e w1 ⟨rfl, rfl⟩))
  go_ret
  exact ⟨rfl, rfl⟩
/-- A capability as it is handed. -/
abbrev cpV (c : Cp) : Value := .agg #[.int .i64 c.1, .int .u64 (c.2.1 : Int), .int .u64 (c.2.2 : Int)]
end Go.Proofs.Ytlelglfdamakaaa
namespace Go.Proofs.Ytlelglfdamakaaa
open Go.RowKit H
set_option linter.unusedVariables false

/-! ### Find -/
set_option maxRecDepth 100000 in
set_option maxHeartbeats 1000000 in
theorem find_of {w : World} {A : Ad} {kn mo : Nat} {T : List (Cp × Int)} {X : List Tk} {l : Fo} (h : Cm w A kn mo T X l) (o : Int) (hi lo : Nat) (v : Int) (b : Bool)
    (hG : ∀ W, Below w.heap.size w W → Calls Try.prog 57 #[.pointer (some ⟨A.tg, 0, none⟩), .agg #[.int .i64 o, .int .u64 (hi : Int), .int .u64 (lo : Int)]] W (fun e w' => e = .returned (.tuple #[.int .i64 v, .bool b]) ∧ Below W.heap.size W w')) :
    Calls Try.prog 9 #[.pointer (some ⟨A.g, 0, none⟩), .agg #[.int .i64 o, .int .u64 (hi : Int), .int .u64 (lo : Int)]] w fun e w' => e = .returned (.tuple #[.int .i64 v, .bool b]) ∧ Below w.heap.size w w' := by
  have hN : Hid (∀ W, Below w.heap.size w W → Calls Try.prog 31 #[.pointer (some ⟨A.g, 0, none⟩), .agg #[.int .i64 o, .int .u64 (hi : Int), .int .u64 (lo : Int)]] W (fun e w' => e = .returned (.tuple #[.int .i64 v, .bool b]) ∧ Below W.heap.size W w')) := by
    intro W hW
    have x0 := (h.later hW).c0
    clear h
    obtain ⟨w1, hw1⟩ : ∃ w1, w1 = W.alloc (Obj.cells #[.int .i64 o, .int .u64 (hi : Int), .int .u64 (lo : Int)] 32) := ⟨_, rfl⟩
    have hB1 : Below W.heap.size W w1 := by rw [hw1]; exact below1 _ _
    have hC : Hid (∀ U : World, Below w1.heap.size w1 U → (U.cell? ⟨W.heap.size, 0, none⟩ = some (.int .i64 o) ∧ U.cell? ⟨W.heap.size, 1, none⟩ = some (.int .u64 (hi : Int)) ∧ U.cell? ⟨W.heap.size, 2, none⟩ = some (.int .u64 (lo : Int)) ∧ U.cell? ⟨A.g, 0, none⟩ = some (.pointer (some ⟨A.tg, 0, none⟩))) ∧ Below w1.heap.size w1 U) := fun U hU =>
      ⟨⟨cell_later hU (by rw [hw1]; simp [go_sem]), cell_later hU (by rw [hw1]; simp [go_sem]), cell_later hU (by rw [hw1]; simp [go_sem]), cell_later hU (cell_later hB1 x0)⟩, hU⟩
    have HG := hid (fun (U : World) (hU : Below w1.heap.size w1 U) => hG U (below_call (below_call hW hB1) hU))
    have HB1 := hid hB1
    clear hG hB1 hW
    go_enter Try.func31, Try.ntmps31
    go_upto_region 1 with fail
    rw [← hw1]
    clear hw1
    go_region_held3 (fun U => (U.cell? ⟨W.heap.size, 0, none⟩ = some (.int .i64 o) ∧ U.cell? ⟨W.heap.size, 1, none⟩ = some (.int .u64 (hi : Int)) ∧ U.cell? ⟨W.heap.size, 2, none⟩ = some (.int .u64 (lo : Int)) ∧ U.cell? ⟨A.g, 0, none⟩ = some (.pointer (some ⟨A.tg, 0, none⟩))) ∧ Below w1.heap.size w1 U) (first | exact hC.out _ HB2.out | exact hC.out _ (Below.refl _ _).drew) (first
      | (go_at_call 57; refine (HG.out _ (Below.refl _ _).drew).mono ?_; rintro e w2 ⟨rfl, hb2⟩; have HB2 := hid (below_call (Below.refl w1.heap.size w1).drew hb2); clear hb2))
    go_wp2
    exact bodyPost_ret (v := .tuple #[.int .i64 v, .bool b]) (by simp [results, Try.results31, go_sem]) rfl ⟨rfl, below_call HB1.out HB2.out⟩
  obtain ⟨w1, hw1⟩ : ∃ w1, w1 = w.alloc (Obj.cells #[.int .i64 o, .int .u64 (hi : Int), .int .u64 (lo : Int)] 32) := ⟨_, rfl⟩
  have hB1 : Below w.heap.size w w1 := by rw [hw1]; exact below1 _ _
  have hC : Hid (∀ U : World, Below w1.heap.size w1 U → (U.cell? ⟨w.heap.size, 0, none⟩ = some (.int .i64 o) ∧ U.cell? ⟨w.heap.size, 1, none⟩ = some (.int .u64 (hi : Int)) ∧ U.cell? ⟨w.heap.size, 2, none⟩ = some (.int .u64 (lo : Int))) ∧ Below w1.heap.size w1 U) := fun U hU =>
    ⟨⟨cell_later hU (by rw [hw1]; simp [go_sem]), cell_later hU (by rw [hw1]; simp [go_sem]), cell_later hU (by rw [hw1]; simp [go_sem])⟩, hU⟩
  have HB1 := hid hB1
  clear hG hB1 h
  go_enter Try.func9, Try.ntmps9
  go_upto_region 1 with fail
  rw [← hw1]
  clear hw1
  go_region_held3 (fun U => (U.cell? ⟨w.heap.size, 0, none⟩ = some (.int .i64 o) ∧ U.cell? ⟨w.heap.size, 1, none⟩ = some (.int .u64 (hi : Int)) ∧ U.cell? ⟨w.heap.size, 2, none⟩ = some (.int .u64 (lo : Int))) ∧ Below w1.heap.size w1 U) (first | exact hC.out _ HB2.out | exact hC.out _ (Below.refl _ _).drew) (first
    | (go_at_call 31; refine (hN.out _ (below_call HB1.out (Below.refl _ _).drew)).mono ?_; rintro e w2 ⟨rfl, hb2⟩; have HB2 := hid (below_call (Below.refl w1.heap.size w1).drew hb2); clear hb2))
  go_wp2
  exact bodyPost_ret (v := .tuple #[.int .i64 v, .bool b]) (by simp [results, Try.results9, go_sem]) rfl ⟨rfl, below_call HB1.out HB2.out⟩

/-! ### note -/
set_option maxRecDepth 100000 in
set_option maxHeartbeats 1000000 in
theorem note_no {w : World} {A : Ad} {kn mo : Nat} {T : List (Cp × Int)} {X : List Tk} {l : Fo} (h : Cm w A kn mo T X l) (n o : Int) (hi lo : Nat) (r code : Int) (hc : code ≠ 0)
    (hG : ∀ W, Below w.heap.size w W → Calls Try.prog 72 #[.pointer (some ⟨A.tg, 0, none⟩), .agg #[.int .i64 o, .int .u64 (hi : Int), .int .u64 (lo : Int)], .int .i64 n] W (fun e w' => e = .returned (.int .i64 code) ∧ Below W.heap.size W w')) :
    Calls Try.prog 55 #[.pointer (some ⟨A.g, 0, none⟩), .int .i64 n, .agg #[.int .i64 o, .int .u64 (hi : Int), .int .u64 (lo : Int), .int .i64 r]] w fun e w' => e = .returned (.int .i64 code) ∧ Below w.heap.size w w' := by
  have x0 := h.c0
  clear h
  obtain ⟨w1, hw1⟩ : ∃ w1, w1 = w.alloc (Obj.cells #[.int .i64 o, .int .u64 (hi : Int), .int .u64 (lo : Int), .int .i64 r] 126) := ⟨_, rfl⟩
  have hB1 : Below w.heap.size w w1 := by rw [hw1]; exact below1 _ _
  have hC : Hid (∀ U : World, Below w1.heap.size w1 U → (U.cell? ⟨w.heap.size, 0, none⟩ = some (.int .i64 o) ∧ U.cell? ⟨w.heap.size, 1, none⟩ = some (.int .u64 (hi : Int)) ∧ U.cell? ⟨w.heap.size, 2, none⟩ = some (.int .u64 (lo : Int)) ∧ U.cell? ⟨A.g, 0, none⟩ = some (.pointer (some ⟨A.tg, 0, none⟩))) ∧ Below w1.heap.size w1 U) := fun U hU =>
    ⟨⟨cell_later hU (by rw [hw1]; simp [go_sem]), cell_later hU (by rw [hw1]; simp [go_sem]), cell_later hU (by rw [hw1]; simp [go_sem]), cell_later hU (cell_later hB1 x0)⟩, hU⟩
  have HG := hid (fun (U : World) (hU : Below w1.heap.size w1 U) => hG U (below_call hB1 hU))
  have HB1 := hid hB1
  clear hG hB1
  go_enter Try.func55, Try.ntmps55
  go_upto_region 1 with fail
  rw [← hw1]
  clear hw1
  go_region_held3 (fun U => (U.cell? ⟨w.heap.size, 0, none⟩ = some (.int .i64 o) ∧ U.cell? ⟨w.heap.size, 1, none⟩ = some (.int .u64 (hi : Int)) ∧ U.cell? ⟨w.heap.size, 2, none⟩ = some (.int .u64 (lo : Int)) ∧ U.cell? ⟨A.g, 0, none⟩ = some (.pointer (some ⟨A.tg, 0, none⟩))) ∧ Below w1.heap.size w1 U) (first | exact hC.out _ HB2.out | exact hC.out _ (Below.refl _ _).drew) (first
    | (go_at_call 72; refine (HG.out _ (Below.refl _ _).drew).mono ?_; rintro e w2 ⟨rfl, hb2⟩; have HB2 := hid (below_call (Below.refl w1.heap.size w1).drew hb2); clear hb2))
  go_wp2
  go_ret
  exact ⟨rfl, below_call HB1.out HB2.out⟩
set_option maxRecDepth 100000 in
set_option maxHeartbeats 2000000 in
theorem note_ok {w : World} {A : Ad} {kn mo : Nat} {T T' : List (Cp × Int)} {X : List Tk} {l : Fo} (h : Cm w A kn mo T X l) (n : Nat) (hn : n < mo) (o : Int) (hi lo : Nat) (r : Int)
    (hG : ∀ W, Below w.heap.size w W → Calls Try.prog 72 #[.pointer (some ⟨A.tg, 0, none⟩), .agg #[.int .i64 o, .int .u64 (hi : Int), .int .u64 (lo : Int)], .int .i64 (n : Int)] W (fun e w' => e = .returned (.int .i64 0) ∧ I.Tb w' A.tg A.tb kn mo A.N T' ∧ But (I.In A.tg A.tb) W w')) :
    Calls Try.prog 55 #[.pointer (some ⟨A.g, 0, none⟩), .int .i64 (n : Int), .agg #[.int .i64 o, .int .u64 (hi : Int), .int .u64 (lo : Int), .int .i64 r]] w fun e w' => e = .returned (.int .i64 0) ∧ Cm w' A kn mo T' (X.set n ((o, hi, lo), r)) l ∧ But A.Wr w w' := by
  have x0 := h.c0
  have hl := h.lt
  obtain ⟨w1, hw1⟩ : ∃ w1, w1 = w.alloc (Obj.cells #[.int .i64 o, .int .u64 (hi : Int), .int .u64 (lo : Int), .int .i64 r] 126) := ⟨_, rfl⟩
  have hB1 : Below w.heap.size w w1 := by rw [hw1]; exact below1 _ _
  have hni : ∀ k, I.In A.tg A.tb k → k < w.heap.size := by
    rintro k (rfl | rfl)
    · exact hl _ (.inr (.inr (.inl rfl)))
    · exact hl _ (.inr (.inr (.inr (.inl rfl))))
  have hng : ¬ I.In A.tg A.tb A.g := by rintro (e | e); exact h.dis.d1 e.symm; exact h.dis.d2 e.symm
  have hns : ¬ I.In A.tg A.tb w.heap.size := fun hs => by have := hni _ hs; omega
  have hC : Hid (∀ U : World, But (I.In A.tg A.tb) w1 U → (U.cell? ⟨w.heap.size, 0, none⟩ = some (.int .i64 o) ∧ U.cell? ⟨w.heap.size, 1, none⟩ = some (.int .u64 (hi : Int)) ∧ U.cell? ⟨w.heap.size, 2, none⟩ = some (.int .u64 (lo : Int)) ∧ U.cell? ⟨w.heap.size, 3, none⟩ = some (.int .i64 r) ∧ U.cell? ⟨A.g, 0, none⟩ = some (.pointer (some ⟨A.tg, 0, none⟩))) ∧ But (I.In A.tg A.tb) w1 U) := fun U hU =>
    ⟨⟨cell_but hU (by rw [hw1]; simp [go_sem]) hns, cell_but hU (by rw [hw1]; simp [go_sem]) hns, cell_but hU (by rw [hw1]; simp [go_sem]) hns, cell_but hU (by rw [hw1]; simp [go_sem]) hns, cell_but hU (cell_later hB1 x0) hng⟩, hU⟩
  have HG := hid (fun (U : World) (hU : Below w1.heap.size w1 U) => hG U (below_call hB1 hU))
  have HB1 := hid hB1
  have HH := hid h
  have hmo := h.small
  have hne := h.dis.d3
  have hse : ¬ w.heap.size = A.eb := by have := h.lte; omega
  clear hG hB1 h hni hng hns hl
  go_enter Try.func55, Try.ntmps55
  go_upto_region 1 with fail
  rw [← hw1]
  clear hw1
  go_region_held3 (fun U => (U.cell? ⟨w.heap.size, 0, none⟩ = some (.int .i64 o) ∧ U.cell? ⟨w.heap.size, 1, none⟩ = some (.int .u64 (hi : Int)) ∧ U.cell? ⟨w.heap.size, 2, none⟩ = some (.int .u64 (lo : Int)) ∧ U.cell? ⟨w.heap.size, 3, none⟩ = some (.int .i64 r) ∧ U.cell? ⟨A.g, 0, none⟩ = some (.pointer (some ⟨A.tg, 0, none⟩))) ∧ But (I.In A.tg A.tb) w1 U) (first | exact hC.out _ HB2.out | exact hC.out _ (But.of (Below.refl _ _).drew)) (first
    | (go_at_call 72; refine (HG.out _ (Below.refl _ _).drew).mono ?_; rintro e w2 ⟨rfl, ht2, hb2⟩; have HB2 := hid ((But.of (S := I.In A.tg A.tb) (Below.refl w1.heap.size w1).drew).trans hb2); have HT2 := hid ht2; clear hb2 ht2))
  obtain ⟨⟨y0, y1, y2, y3, _⟩, _⟩ := hC.out _ HB2.out
  have hM := (HH.out.later HB1.out).setT HB2.out HT2.out
  have z1 := hM.c1
  obtain ⟨p0, p1, p2, p3⟩ := hM.at_ hn
  have hfr := hM.fr
  have hfin : ∀ W : World, W = (setE w2 A.eb (n * 4) ((o, hi, lo), r)).drew → Cm W A kn mo T' (X.set n ((o, hi, lo), r)) l ∧ But A.Wr w W := by
    rintro W rfl
    refine ⟨(hM.setX hn _).later (Below.refl _ _).drew, (setE_but ((But.of HB1.out).trans (HB2.out.mono ?_)) (.inr (.inr (.inl rfl))) _ _).call (Below.refl _ _).drew⟩
    rintro k (rfl | rfl)
    · exact .inl rfl
    · exact .inr (.inl rfl)
  have HF := hid hfin
  clear hM hfin
  go_wp2
  go_region
  go_wp2
  go_ret
  exact ⟨rfl, HF.out _ rfl⟩
end Go.Proofs.Ytlelglfdamakaaa
namespace Go.Proofs.Ytlelglfdamakaaa
open Go.RowKit H
set_option linter.unusedVariables false

/-! ### forget -/
theorem wr_in {A : Ad} {k : Nat} (h : I.In A.tg A.tb k) : A.Wr k := by
  rcases h with rfl | rfl
  · exact .inl rfl
  · exact .inr (.inl rfl)
set_option maxRecDepth 100000 in
set_option maxHeartbeats 2000000 in
theorem forget_of {w : World} {A : Ad} {kn mo : Nat} {T T' : List (Cp × Int)} {X : List Tk} {l : Fo} (h : Cm w A kn mo T X l) (n : Nat) (hn : n < mo) (o : Int) (hi lo : Nat) (r : Int) (hx : tk X (n : Int) = ((o, hi, lo), r))
    (hG : ∀ W, Below w.heap.size w W → Calls Try.prog 61 #[.pointer (some ⟨A.tg, 0, none⟩), .agg #[.int .i64 o, .int .u64 (hi : Int), .int .u64 (lo : Int)]] W (fun e w' => (∃ b, e = .returned (.bool b)) ∧ I.Tb w' A.tg A.tb kn mo A.N T' ∧ But (I.In A.tg A.tb) W w')) :
    Calls Try.prog 38 #[.pointer (some ⟨A.g, 0, none⟩), .int .i64 (n : Int)] w fun e w' => e = .returned (cpV (o, hi, lo)) ∧ Cm w' A kn mo T' (X.set n tz) l ∧ But A.Wr w w' := by
  have hl := h.lt
  have hE := h.at_ hn
  rw [hx] at hE
  obtain ⟨w0, hw0⟩ : ∃ w0, w0 = w.alloc (Obj.cells #[.int .i64 0, .int .u64 0, .int .u64 0] 32) := ⟨_, rfl⟩
  have hB0 : Below w.heap.size w w0 := by rw [hw0]; exact below1 _ _
  have x0 := cell_later hB0 h.c0
  have x1 := cell_later hB0 h.c1
  obtain ⟨e0, e1, e2, e3⟩ := hE.later hB0
  simp only at e0 e1 e2 e3
  have hlt0 : w.heap.size < w0.heap.size := by rw [hw0]; simp
  obtain ⟨w1, hw1⟩ : ∃ w1, w1 = w0.alloc (Obj.cells #[.int .i64 o, .int .u64 (hi : Int), .int .u64 (lo : Int)] 32) := ⟨_, rfl⟩
  have hB01 : Below w0.heap.size w0 w1 := by rw [hw1]; exact below1 _ _
  have hB1 : Below w.heap.size w w1 := below_call hB0 hB01
  have hni : ∀ k, I.In A.tg A.tb k → k < w.heap.size := by
    rintro k (rfl | rfl)
    · exact hl _ (.inr (.inr (.inl rfl)))
    · exact hl _ (.inr (.inr (.inr (.inl rfl))))
  have hng : ¬ I.In A.tg A.tb A.g := by rintro (e | e); exact h.dis.d1 e.symm; exact h.dis.d2 e.symm
  have hns : ¬ I.In A.tg A.tb w.heap.size := fun hs => by have := hni _ hs; omega
  have hns1 : ¬ I.In A.tg A.tb w0.heap.size := fun hs => by have := hni _ hs; omega
  have hC : Hid (∀ U : World, But (I.In A.tg A.tb) w1 U → (U.cell? ⟨w0.heap.size, 0, none⟩ = some (.int .i64 o) ∧ U.cell? ⟨w0.heap.size, 1, none⟩ = some (.int .u64 (hi : Int)) ∧ U.cell? ⟨w0.heap.size, 2, none⟩ = some (.int .u64 (lo : Int)) ∧ U.cell? ⟨A.g, 0, none⟩ = some (.pointer (some ⟨A.tg, 0, none⟩))) ∧ But (I.In A.tg A.tb) w1 U) := fun U hU =>
    ⟨⟨cell_but hU (by rw [hw1]; simp [go_sem]) hns1, cell_but hU (by rw [hw1]; simp [go_sem]) hns1, cell_but hU (by rw [hw1]; simp [go_sem]) hns1, cell_but hU (cell_later hB01 x0) hng⟩, hU⟩
  have hL0 : Lies w0 ⟨w.heap.size, 0, none⟩ (.int .i64 0) ∧ Lies w0 ⟨w.heap.size, 1, none⟩ (.int .u64 0) ∧ Lies w0 ⟨w.heap.size, 2, none⟩ (.int .u64 0) := by
    rw [hw0]; exact ⟨⟨by simp [go_sem], by simp [go_sem]⟩, ⟨by simp [go_sem], by simp [go_sem]⟩, ⟨by simp [go_sem], by simp [go_sem]⟩⟩
  have hD : Hid (∀ U : World, But (I.In A.tg A.tb) w1 U → Lies U ⟨w.heap.size, 0, none⟩ (.int .i64 0) ∧ Lies U ⟨w.heap.size, 1, none⟩ (.int .u64 0) ∧ Lies U ⟨w.heap.size, 2, none⟩ (.int .u64 0)) := fun U hU =>
    ⟨(hL0.1.later hB01).but hU hns, (hL0.2.1.later hB01).but hU hns, (hL0.2.2.later hB01).but hU hns⟩
  have HG := hid (fun (U : World) (hU : Below w1.heap.size w1 U) => hG U (below_call hB1 hU))
  have HB1 := hid hB1
  have HH := hid h
  have hmo := h.small
  have hse : ¬ w.heap.size = A.eb := by have := h.lte; omega
  have hse1 : ¬ w0.heap.size = A.eb := by have := h.lte; omega
  have hge : ¬ A.g = A.eb := fun e => h.dis.d3 e.symm
  have hslt : ¬ w.heap.size = w0.heap.size := by omega
  clear hG hB1 h hni hng hns hns1 hl hx hE hL0 hB01 hB0 hlt0
  go_enter Try.func38, Try.ntmps38
  go_upto_region 1 with fail
  rw [← hw0]
  clear hw0
  go_upto_region 2 with fail
  rw [← hw1]
  clear hw1 x0 x1 e0 e1 e2 e3
  go_region_held3 (fun U => (U.cell? ⟨w0.heap.size, 0, none⟩ = some (.int .i64 o) ∧ U.cell? ⟨w0.heap.size, 1, none⟩ = some (.int .u64 (hi : Int)) ∧ U.cell? ⟨w0.heap.size, 2, none⟩ = some (.int .u64 (lo : Int)) ∧ U.cell? ⟨A.g, 0, none⟩ = some (.pointer (some ⟨A.tg, 0, none⟩))) ∧ But (I.In A.tg A.tb) w1 U) (first | exact hC.out _ HB2.out | exact hC.out _ (But.of (Below.refl _ _).drew)) (first
    | (go_at_call 61; refine (HG.out _ (Below.refl _ _).drew).mono ?_; rintro e w2 ⟨⟨b, rfl⟩, ht2, hb2⟩; have HB2 := hid ((But.of (S := I.In A.tg A.tb) (Below.refl w1.heap.size w1).drew).trans hb2); have HT2 := hid ht2; clear hb2 ht2))
  obtain ⟨⟨y0, y1, y2, _⟩, _⟩ := hC.out _ HB2.out
  obtain ⟨⟨r0, q0⟩, ⟨r1, q1⟩, ⟨r2, q2⟩⟩ := hD.out _ HB2.out
  have hM := (HH.out.later HB1.out).setT HB2.out HT2.out
  have z1 := hM.c1
  obtain ⟨p0, p1, p2, p3⟩ := hM.at_ hn
  have hfr := hM.fr
  have hfin : ∀ W : World, W = (((setE w2 A.eb (n * 4) tz).setCell ⟨w.heap.size, 0, none⟩ (.int .i64 o)).setCell ⟨w.heap.size, 1, none⟩ (.int .u64 (hi : Int))).setCell ⟨w.heap.size, 2, none⟩ (.int .u64 (lo : Int)) → Cm W A kn mo T' (X.set n tz) l ∧ But A.Wr w W := by
    rintro W rfl
    have hb : But (· = w.heap.size) (setE w2 A.eb (n * 4) tz) ((((setE w2 A.eb (n * 4) tz).setCell ⟨w.heap.size, 0, none⟩ (.int .i64 o)).setCell ⟨w.heap.size, 1, none⟩ (.int .u64 (hi : Int))).setCell ⟨w.heap.size, 2, none⟩ (.int .u64 (lo : Int))) :=
      (((But.refl (· = w.heap.size) _).setCell (p := ⟨w.heap.size, 0, none⟩) rfl _).setCell (p := ⟨w.heap.size, 1, none⟩) rfl _).setCell (p := ⟨w.heap.size, 2, none⟩) rfl _
    refine ⟨(hM.setX hn _).but hb (fun k hk e => by have := HH.out.lt k hk; omega), But.comp (setE_but ((But.of HB1.out).trans (HB2.out.mono fun k hk => wr_in hk)) (.inr (.inr (.inl rfl))) _ _) hb (fun i e => .inr (by omega))⟩
  have HF := hid hfin
  clear hM hfin
  go_wp2
  exact bodyPost_ret (v := cpV (o, hi, lo)) (by simp [results, Try.results38, go_sem, r0, r1, r2]) rfl ⟨rfl, HF.out _ rfl⟩
/-- The pairs of all other capabilities. -/
def dropT (T : List (Cp × Int)) (c : Cp) : List (Cp × Int) := T.filter (fun e => decide (e.1 ≠ c))
theorem dropT_perm : ∀ {T : List (Cp × Int)} {c : Cp} {v : Int}, (T.map Prod.fst).Nodup → (c, v) ∈ T → T.Perm ((c, v) :: dropT T c)
  | [], _, _, _, h => by cases h
  | (d, u) :: T, c, v, hn, h => by
    rw [List.map_cons, List.nodup_cons] at hn
    by_cases e : d = c
    · subst e
      have hu : v = u := by
        rcases List.mem_cons.1 h with h | h
        · exact (Prod.mk.inj h).2
        · exact absurd (List.mem_map.2 ⟨_, h, rfl⟩) hn.1
      subst hu
      have hT : dropT T d = T := List.filter_eq_self.2 (fun x hx => decide_eq_true (fun e => hn.1 (List.mem_map.2 ⟨x, hx, e⟩)))
      have : dropT ((d, v) :: T) d = T := by unfold dropT; rw [List.filter_cons_of_neg (by simp)]; exact hT
      rw [this]
    · have h' : (c, v) ∈ T := by
        rcases List.mem_cons.1 h with h | h
        · exact absurd (Prod.mk.inj h).1.symm e
        · exact h
      have : dropT ((d, u) :: T) c = (d, u) :: dropT T c := by unfold dropT; rw [List.filter_cons_of_pos (by simpa using e)]
      rw [this]
      exact ((dropT_perm hn.2 h').cons _).trans (List.Perm.swap _ _ _)
theorem dropT_none {T : List (Cp × Int)} {c : Cp} (h : c ∉ T.map Prod.fst) : dropT T c = T := List.filter_eq_self.2 (fun x hx => decide_eq_true (fun e => h (List.mem_map.2 ⟨x, hx, e⟩)))
theorem forget_tot {w : World} {A : Ad} {kn mo : Nat} {T : List (Cp × Int)} {X : List Tk} {l : Fo} (h : Cm w A kn mo T X l) (n : Nat) (hn : n < mo) (hw : (tk X (n : Int)).1.2.1 < B64 ∧ (tk X (n : Int)).1.2.2 < B64) :
    Calls Try.prog 38 #[.pointer (some ⟨A.g, 0, none⟩), .int .i64 (n : Int)] w fun e w' => e = .returned (cpV (tk X (n : Int)).1) ∧ Cm w' A kn mo (dropT T (tk X (n : Int)).1) (X.set n tz) l ∧ But A.Wr w w' := by
  obtain ⟨⟨o, hi, lo⟩, r, hx⟩ : ∃ c r, tk X (n : Int) = (c, r) := ⟨_, _, rfl⟩
  rw [hx] at hw ⊢
  refine forget_of h n hn o hi lo r hx (fun W hW => ?_)
  by_cases hc : (o, hi, lo) ∈ T.map Prod.fst
  · obtain ⟨⟨c, v⟩, hm, rfl⟩ := List.mem_map.1 hc
    exact (I.drop_ok (h.tab.later hW) _ _ _ hw.1 hw.2 v hm _ (dropT_perm h.tab.nodup hm)).mono (fun e w' he => ⟨⟨_, he.1⟩, he.2⟩)
  · rw [dropT_none hc]
    exact (I.drop_none (h.tab.later hW) _ _ _ hw.1 hw.2 hc).mono (fun e w' he => ⟨⟨_, he.1⟩, (h.tab.later hW).later he.2, But.of he.2⟩)

/-! ### join, lowest -/
set_option maxRecDepth 100000 in
set_option maxHeartbeats 1000000 in
theorem join_any {w : World} {A : Ad} {kn mo : Nat} {T : List (Cp × Int)} {X : List Tk} {l : Fo} (h : Cm w A kn mo T X l) (p : Int) (n : Nat) (hn : n < mo) (hl : (n : Int) ∉ nums l) (hp : p = -1 ∨ p ∈ nums l) :
    Calls Try.prog 56 #[.pointer (some ⟨A.g, 2, none⟩), .int .i64 p, .int .i64 (n : Int)] w fun e w' => e = .returned (.tuple #[]) ∧ Cm w' A kn mo T X (l ++ [((n : Int), p)]) ∧ But A.Wr w w' := by
  have x2 := h.c2
  have HH := hid h
  by_cases hq : p = -1
  · subst hq
    have hc := hid (root_any h.kin (n : Int))
    have HL : Hid (rootL mo l (n : Int) = l ++ [((n : Int), -1)]) := by unfold Hid rootL; rw [if_pos ⟨by omega, hl⟩]
    clear h hl hp
    go_enter Try.func56, Try.ntmps56
    go_wp2_with (first | (go_at_call 73; refine hc.out.mono ?_; rintro e w1 ⟨rfl, hk, hb⟩; have HK := hid hk; have HB := hid hb; clear hk hb))
    refine bodyPost_ret (results_none rfl _ _ _) rfl ⟨rfl, ?_, HB.out.mono (fun k e => .inr (.inr (.inr e)))⟩
    rw [← HL.out]
    exact HH.out.setK HB.out HK.out
  · have hp' : p ∈ nums l := hp.resolve_left hq
    have hc := hid (child_any h.kin p (n : Int))
    have HL : Hid (childL mo l p (n : Int) = l ++ [((n : Int), p)]) := by unfold Hid childL; rw [if_pos ⟨hp', by omega, hl⟩]
    have hb1 : (p == (-1 : Int)) = false := by simp [hq]
    clear h hl hp hp'
    go_enter Try.func56, Try.ntmps56
    go_wp2_with (first | (go_at_call 74; refine hc.out.mono ?_; rintro e w1 ⟨rfl, hk, hb⟩; have HK := hid hk; have HB := hid hb; clear hk hb))
    go_end0
    refine ⟨rfl, ?_, HB.out.mono (fun k e => .inr (.inr (.inr e)))⟩
    rw [← HL.out]
    exact HH.out.setK HB.out HK.out
set_option maxRecDepth 100000 in
set_option maxHeartbeats 1000000 in
theorem lowest_any {w : World} {A : Ad} {kn mo : Nat} {T : List (Cp × Int)} {X : List Tk} {l : Fo} (h : Cm w A kn mo T X l) :
    Calls Try.prog 54 #[.pointer (some ⟨A.g, 0, none⟩)] w fun e w' => e = .returned (.int .i64 (low l : Int)) ∧ w' = w := by
  have hok := hid h.kin.ok
  have hmo := h.small
  have hlen := hok.out.len
  have hH := fun n : Int => hid (chas_any h n)
  clear h
  go_enter Try.func54, Try.ntmps54
  go_upto_region 2 with fail
  go_loopw [3] (fun v w' => ∃ (i : Nat), v = .int .i64 (i : Int) ∧ i ≤ l.length ∧ Hid (∀ j : Nat, j < i → (j : Int) ∈ nums l) ∧ w = w') (fun k _ => l.length - (intOf k).toNat)
  case atStart => exact ⟨0, rfl, Nat.zero_le _, fun j hj => by omega, rfl⟩
  case round =>
    obtain ⟨i, rfl, hi, hx, rfl⟩ := hrel
    have hh := (hH (i : Int)).out
    by_cases hin : (i : Int) ∈ nums l
    · rw [decide_eq_true hin] at hh
      have hx1 : Hid (∀ j : Nat, j < i + 1 → (j : Int) ∈ nums l) := fun j hj => by
        by_cases e : j = i
        · rw [e]; exact hin
        · exact hx.out j (by omega)
      have hlt : i + 1 ≤ l.length := low_bound hx1.out
      clear hin
      go_wp2_with (first | (go_at_call 36; refine hh.mono ?_; rintro e w1 ⟨rfl, rfl⟩))
      refine ⟨⟨i + 1, by go_num, by omega, hx1, trivial⟩, by simp [intOf]; omega⟩
    · rw [decide_eq_false hin] at hh
      have HE : Hid (low l = i) := low_eq hin hx.out
      clear hin
      go_wp2_with (first | (go_at_call 36; refine hh.mono ?_; rintro e w1 ⟨rfl, rfl⟩))
      go_ret
      exact ⟨by rw [HE.out]; rfl, rfl⟩
end Go.Proofs.Ytlelglfdamakaaa
namespace Go.Proofs.Ytlelglfdamakaaa
open Go.RowKit H
set_option linter.unusedVariables false

/-- A token as it is told. -/
abbrev tokA (c : Cp) (r p : Int) : Value := .agg #[.int .i64 c.1, .int .u64 (c.2.1 : Int), .int .u64 (c.2.2 : Int), .int .i64 r, .int .i64 p]
/-- What At tells. -/
def tokV (X : List Tk) (l : Fo) (n : Int) : Value := if n ∈ nums l then .tuple #[tokA (tk X n).1 (rg X n) (par l n), .bool true] else .tuple #[tokA (0, 0, 0) 0 0, .bool false]
/-- A token is written into a block. -/
def set5 (w : World) (b : Nat) (c : Cp) (r p : Int) : World :=
  ((((w.setCell ⟨b, 0, none⟩ (.int .i64 c.1)).setCell ⟨b, 1, none⟩ (.int .u64 (c.2.1 : Int))).setCell ⟨b, 2, none⟩ (.int .u64 (c.2.2 : Int))).setCell ⟨b, 3, none⟩ (.int .i64 r)).setCell ⟨b, 4, none⟩ (.int .i64 p)
theorem set5_but {S : Nat → Prop} {a w : World} (h : But S a w) {b : Nat} (hb : S b) (c : Cp) (r p : Int) : But S a (set5 w b c r p) :=
  ((((h.setCell (p := ⟨b, 0, none⟩) hb _).setCell (p := ⟨b, 1, none⟩) hb _).setCell (p := ⟨b, 2, none⟩) hb _).setCell (p := ⟨b, 3, none⟩) hb _).setCell (p := ⟨b, 4, none⟩) hb _
set_option maxRecDepth 100000 in
set_option maxHeartbeats 2000000 in
theorem at_in {w : World} {A : Ad} {kn mo : Nat} {T : List (Cp × Int)} {X : List Tk} {l : Fo} (h : Cm w A kn mo T X l) (n p : Int) (hp : (n, p) ∈ l) :
    Calls Try.prog 32 #[.pointer (some ⟨A.g, 0, none⟩), .int .i64 n] w fun e w' => e = .returned (.tuple #[tokA (tk X n).1 (rg X n) p, .bool true]) ∧ Below w.heap.size w w' := by
  have hnl := mem_nums.2 ⟨p, hp⟩
  have hrn := h.kin.ok.range n hnl
  obtain ⟨k, rfl⟩ : ∃ k : Nat, n = (k : Int) := ⟨n.toNat, by omega⟩
  have hk : k < mo := by omega
  obtain ⟨w0, hw0⟩ : ∃ w0, w0 = w.alloc (Obj.cells #[.int .i64 0, .int .u64 0, .int .u64 0, .int .i64 0, .int .i64 0] 83) := ⟨_, rfl⟩
  have hB0 : Below w.heap.size w w0 := by rw [hw0]; exact below1 _ _
  have h0 := h.later hB0
  have hh := hid (chas_any h0 (k : Int))
  rw [decide_eq_true hnl] at hh
  have x1 := h0.c1
  obtain ⟨c, r, hxx⟩ : ∃ c r, tk X (k : Int) = (c, r) := ⟨_, _, rfl⟩
  have hE := h0.at_ hk
  rw [hxx] at hE
  have hrg : rg X (k : Int) = r := by unfold rg; rw [hxx]
  rw [hrg, hxx]
  obtain ⟨o, hi, lo⟩ := c
  obtain ⟨e0, e1, e2, e3⟩ := hE
  simp only at e0 e1 e2 e3
  obtain ⟨w1, hw1⟩ : ∃ w1, w1 = w0.alloc (Obj.cells #[.int .i64 o, .int .u64 (hi : Int), .int .u64 (lo : Int), .int .i64 r] 126) := ⟨_, rfl⟩
  have hB1 : Below w0.heap.size w0 w1 := by rw [hw1]; exact below1 _ _
  have hP := fun (W : World) (hW : Below w1.heap.size w1 W) => cpar_any (h0.later (below_call hB1 hW)) (k : Int) p hp
  have hlt0 : w.heap.size < w0.heap.size := by rw [hw0]; simp
  have hL0 : Lies w0 ⟨w.heap.size, 0, none⟩ (.int .i64 0) ∧ Lies w0 ⟨w.heap.size, 1, none⟩ (.int .u64 0) ∧ Lies w0 ⟨w.heap.size, 2, none⟩ (.int .u64 0) ∧ Lies w0 ⟨w.heap.size, 3, none⟩ (.int .i64 0) ∧ Lies w0 ⟨w.heap.size, 4, none⟩ (.int .i64 0) := by
    rw [hw0]; exact ⟨⟨by simp [go_sem], by simp [go_sem]⟩, ⟨by simp [go_sem], by simp [go_sem]⟩, ⟨by simp [go_sem], by simp [go_sem]⟩, ⟨by simp [go_sem], by simp [go_sem]⟩, ⟨by simp [go_sem], by simp [go_sem]⟩⟩
  have z0 : w1.cell? ⟨w0.heap.size, 0, none⟩ = some (.int .i64 o) := by rw [hw1]; simp [go_sem]
  have z1 : w1.cell? ⟨w0.heap.size, 1, none⟩ = some (.int .u64 (hi : Int)) := by rw [hw1]; simp [go_sem]
  have z2 : w1.cell? ⟨w0.heap.size, 2, none⟩ = some (.int .u64 (lo : Int)) := by rw [hw1]; simp [go_sem]
  have z3 : w1.cell? ⟨w0.heap.size, 3, none⟩ = some (.int .i64 r) := by rw [hw1]; simp [go_sem]
  have hL : Hid (∀ U, Below w1.heap.size w1 U → Lies U ⟨w.heap.size, 0, none⟩ (.int .i64 0) ∧ Lies U ⟨w.heap.size, 1, none⟩ (.int .u64 0) ∧ Lies U ⟨w.heap.size, 2, none⟩ (.int .u64 0) ∧ Lies U ⟨w.heap.size, 3, none⟩ (.int .i64 0) ∧ Lies U ⟨w.heap.size, 4, none⟩ (.int .i64 0)) := fun U hU =>
    ⟨(hL0.1.later hB1).later hU, (hL0.2.1.later hB1).later hU, (hL0.2.2.1.later hB1).later hU, (hL0.2.2.2.1.later hB1).later hU, (hL0.2.2.2.2.later hB1).later hU⟩
  have hC : Hid (∀ U : World, But (· = w.heap.size) w1 U → (U.cell? ⟨w0.heap.size, 0, none⟩ = some (.int .i64 o) ∧ U.cell? ⟨w0.heap.size, 1, none⟩ = some (.int .u64 (hi : Int)) ∧ U.cell? ⟨w0.heap.size, 2, none⟩ = some (.int .u64 (lo : Int)) ∧ U.cell? ⟨w0.heap.size, 3, none⟩ = some (.int .i64 r)) ∧ But (· = w.heap.size) w1 U) := fun U hU =>
    ⟨⟨cell_but hU z0 (fun e => by simp at e; omega), cell_but hU z1 (fun e => by simp at e; omega), cell_but hU z2 (fun e => by simp at e; omega), cell_but hU z3 (fun e => by simp at e; omega)⟩, hU⟩
  have HP := hid hP
  have hslt : ¬ w.heap.size = w0.heap.size := by omega
  have HB : Hid (∀ W, But (· = w.heap.size) w1 W → Below w.heap.size w W) := fun W hW => But.below (below_call hB0 hB1) hW (fun k e => by omega)
  have hmo := h.small
  clear h h0 hL0 hP hB0 hB1 hlt0 hxx hrg hp hnl
  go_enter Try.func32, Try.ntmps32
  go_upto_region 1 with fail
  rw [← hw0]
  clear hw0
  go_upto_region 4 with (first | (go_at_call 36; refine hh.out.mono ?_; rintro e w9 ⟨rfl, hw9⟩; obtain rfl := hw9.symm; clear hw9))
  rw [← hw1]
  clear hw1 e0 e1 e2 e3 x1
  go_region_held3 (fun U => (U.cell? ⟨w0.heap.size, 0, none⟩ = some (.int .i64 o) ∧ U.cell? ⟨w0.heap.size, 1, none⟩ = some (.int .u64 (hi : Int)) ∧ U.cell? ⟨w0.heap.size, 2, none⟩ = some (.int .u64 (lo : Int)) ∧ U.cell? ⟨w0.heap.size, 3, none⟩ = some (.int .i64 r)) ∧ But (· = w.heap.size) w1 U) (first | exact hC.out _ HST.out | exact hC.out _ HB2.out | exact hC.out _ (But.of (Below.refl _ _).drew)) (first
    | (go_at_call 53; refine (HP.out _ (Below.refl _ _).drew).mono ?_; rintro e w2 ⟨rfl, hw2⟩; have hb2 : Below w1.heap.size w1 w2 := (by rw [hw2]; exact (Below.refl _ _).drew); have HB2 := hid (But.of (S := (· = w.heap.size)) hb2); have HST := hid (set5_but (S := (· = w.heap.size)) HB2.out (b := w.heap.size) (by rfl) (o, hi, lo) r p); obtain ⟨⟨r0, f0⟩, ⟨r1, f1⟩, ⟨r2, f2⟩, ⟨r3, f3⟩, ⟨r4, f4⟩⟩ := hL.out w2 hb2; clear hw2 hb2))
  go_wp2
  exact bodyPost_ret (v := .tuple #[tokA (o, hi, lo) r p, .bool true]) (by simp [results, Try.results32, go_sem, r0, r1, r2, r3, r4]) rfl ⟨rfl, HB.out _ HST.out⟩
end Go.Proofs.Ytlelglfdamakaaa
namespace Go.Proofs.Ytlelglfdamakaaa
open Go.RowKit H
set_option linter.unusedVariables false

set_option maxRecDepth 100000 in
set_option maxHeartbeats 1000000 in
theorem at_out {w : World} {A : Ad} {kn mo : Nat} {T : List (Cp × Int)} {X : List Tk} {l : Fo} (h : Cm w A kn mo T X l) (n : Int) (hn : n ∉ nums l) :
    Calls Try.prog 32 #[.pointer (some ⟨A.g, 0, none⟩), .int .i64 n] w fun e w' => e = .returned (.tuple #[tokA (0, 0, 0) 0 0, .bool false]) ∧ Below w.heap.size w w' := by
  obtain ⟨w0, hw0⟩ : ∃ w0, w0 = w.alloc (Obj.cells #[.int .i64 0, .int .u64 0, .int .u64 0, .int .i64 0, .int .i64 0] 83) := ⟨_, rfl⟩
  have hB0 : Below w.heap.size w w0 := by rw [hw0]; exact below1 _ _
  have hh := hid (chas_any (h.later hB0) n)
  rw [decide_eq_false hn] at hh
  obtain ⟨⟨r0, f0⟩, ⟨r1, f1⟩, ⟨r2, f2⟩, ⟨r3, f3⟩, ⟨r4, f4⟩⟩ : Lies w0 ⟨w.heap.size, 0, none⟩ (.int .i64 0) ∧ Lies w0 ⟨w.heap.size, 1, none⟩ (.int .u64 0) ∧ Lies w0 ⟨w.heap.size, 2, none⟩ (.int .u64 0) ∧ Lies w0 ⟨w.heap.size, 3, none⟩ (.int .i64 0) ∧ Lies w0 ⟨w.heap.size, 4, none⟩ (.int .i64 0) := by
    rw [hw0]; exact ⟨⟨by simp [go_sem], by simp [go_sem]⟩, ⟨by simp [go_sem], by simp [go_sem]⟩, ⟨by simp [go_sem], by simp [go_sem]⟩, ⟨by simp [go_sem], by simp [go_sem]⟩, ⟨by simp [go_sem], by simp [go_sem]⟩⟩
  have HB : Hid (∀ W, But (· = w.heap.size) w0 W → Below w.heap.size w W) := fun W hW => But.below hB0 hW (fun k e => by omega)
  clear h hB0 hn
  go_enter Try.func32, Try.ntmps32
  go_upto_region 1 with fail
  rw [← hw0]
  clear hw0
  go_wp2_with (first | (go_at_call 36; refine hh.out.mono ?_; rintro e w9 ⟨rfl, hw9⟩; obtain rfl := hw9.symm; clear hw9))
  exact bodyPost_ret (v := .tuple #[tokA (0, 0, 0) 0 0, .bool false]) (by simp [results, Try.results32, go_sem, r0, r1, r2, r3, r4]) rfl ⟨rfl, HB.out _ (set5_but (S := (· = w.heap.size)) (But.refl _ _) (b := w.heap.size) rfl (0, 0, 0) 0 0)⟩
theorem at_any {w : World} {A : Ad} {kn mo : Nat} {T : List (Cp × Int)} {X : List Tk} {l : Fo} (h : Cm w A kn mo T X l) (n : Int) :
    Calls Try.prog 32 #[.pointer (some ⟨A.g, 0, none⟩), .int .i64 n] w fun e w' => e = .returned (tokV X l n) ∧ Below w.heap.size w w' := by
  unfold tokV
  by_cases hn : n ∈ nums l
  · rw [if_pos hn]
    obtain ⟨p, hp⟩ := mem_nums.1 hn
    rw [par_eq h.kin.ok hp]
    exact at_in h n p hp
  · rw [if_neg hn]
    exact at_out h n hn

/-! ### root -/
def RootRel (w : World) (X : List Tk) (l : Fo) (o : Int) (mo : Nat) (t : Value) (w' : World) : Prop :=
  ∃ i : Nat, t = .int .i64 (i : Int) ∧ i ≤ mo ∧ Hid (∀ j : Nat, j < i → ((j : Int), -1) ∈ l → ob X (j : Int) ≠ o) ∧ Below w.heap.size w w'
set_option maxRecDepth 100000 in
set_option maxHeartbeats 2000000 in
theorem croot_any {w : World} {A : Ad} {kn mo : Nat} {T : List (Cp × Int)} {X : List Tk} {l : Fo} (h : Cm w A kn mo T X l) (o : Int) :
    Calls Try.prog 29 #[.pointer (some ⟨A.g, 0, none⟩), .int .i64 o] w fun e w' => ((∃ r, (r, -1) ∈ l ∧ ob X r = o ∧ e = .returned (.tuple #[.int .i64 r, .bool true])) ∨ ((∀ r, (r, -1) ∈ l → ob X r ≠ o) ∧ e = .returned (.tuple #[.int .i64 0, .bool false]))) ∧ Below w.heap.size w w' := by
  have hmo := h.small
  have x1 := h.c1
  have HH := hid h
  have hok := hid h.kin.ok
  clear h
  go_enter Try.func29, Try.ntmps29
  go_upto_region 2 with fail
  go_loopw [14] (RootRel w X l o mo) (fun k _ => mo - (intOf k).toNat)
  case atStart => exact ⟨0, rfl, Nat.zero_le _, fun j hj => by omega, Below.refl _ _⟩
  case round =>
    obtain ⟨i, rfl, hi, hx, hB⟩ := hrel
    by_cases hlt : i < mo
    · have hM := HH.out.later hB
      obtain ⟨e0, e1, e2, e3⟩ := hM.at_ hlt
      have hobx : (tk X (i : Int)).1.1 = ob X (i : Int) := rfl
      rw [hobx] at e0
      obtain ⟨w1, hw1⟩ : ∃ w1, w1 = wr.alloc (Obj.cells #[.int .i64 (ob X (i : Int)), .int .u64 ((tk X (i : Int)).1.2.1 : Int), .int .u64 ((tk X (i : Int)).1.2.2 : Int), .int .i64 (tk X (i : Int)).2] 126) := ⟨_, rfl⟩
      have hB1 : Below wr.heap.size wr w1 := by rw [hw1]; exact below1 _ _
      have HB1 := hid (below_call hB hB1)
      have z0 : w1.cell? ⟨wr.heap.size, 0, none⟩ = some (.int .i64 (ob X (i : Int))) := by rw [hw1]; simp [go_sem]
      have hh := hid (chas_any (hM.later hB1) (i : Int))
      have hp := hid (fun p (hp : ((i : Int), p) ∈ l) => cpar_any (hM.later hB1) (i : Int) p hp)
      clear hM hB1 hobx hB
      generalize hoo : ob X (i : Int) = oo at *
      generalize ((tk X (i : Int)).1.2.1 : Int) = u1 at *
      generalize ((tk X (i : Int)).1.2.2 : Int) = u2 at *
      generalize (tk X (i : Int)).2 = u3 at *
      have HOO := hid hoo
      clear hoo
      go_upto_region 4 with fail
      rw [← hw1]
      clear hw1 e0 e1 e2 e3
      by_cases hq : oo = o
      · have hb : (oo == o) = true := by simp [hq]
        by_cases hin : (i : Int) ∈ nums l
        · rw [decide_eq_true hin] at hh
          obtain ⟨p, hpl⟩ := mem_nums.1 hin
          have hp1 := hid (hp.out p hpl)
          by_cases hp0 : p = -1
          · subst hp0
            have HPL := hid hpl
            clear hpl hin hp
            go_wp2_with (first | (go_at_call 36; refine hh.out.mono ?_; rintro e w9 ⟨rfl, hw9⟩; obtain rfl := hw9.symm; clear hw9) | (go_at_call 53; refine hp1.out.mono ?_; rintro e w9 ⟨rfl, hw9⟩; obtain rfl := hw9.symm; clear hw9))
            exact bodyPost_ret (v := .tuple #[.int .i64 (i : Int), .bool true]) (by simp [results, Try.results29, go_sem]) rfl ⟨.inl ⟨(i : Int), HPL.out, by rw [HOO.out]; exact hq, rfl⟩, HB1.out⟩
          · have hb2 : (p == (-1 : Int)) = false := by simp [hp0]
            have hx1 : Hid (∀ j : Nat, j < i + 1 → ((j : Int), -1) ∈ l → ob X (j : Int) ≠ o) := fun j hj hjl => by
              by_cases e : j = i
              · subst e; exact absurd (hok.out.uniq hpl hjl) hp0
              · exact hx.out j (by omega) hjl
            clear hpl hin hp
            go_wp2_with (first | (go_at_call 36; refine hh.out.mono ?_; rintro e w9 ⟨rfl, hw9⟩; obtain rfl := hw9.symm; clear hw9) | (go_at_call 53; refine hp1.out.mono ?_; rintro e w9 ⟨rfl, hw9⟩; obtain rfl := hw9.symm; clear hw9))
            refine ⟨⟨i + 1, by go_num, by omega, hx1, HB1.out⟩, by simp [intOf]; omega⟩
        · rw [decide_eq_false hin] at hh
          have hx1 : Hid (∀ j : Nat, j < i + 1 → ((j : Int), -1) ∈ l → ob X (j : Int) ≠ o) := fun j hj hjl => by
            by_cases e : j = i
            · subst e; exact absurd (mem_nums.2 ⟨_, hjl⟩) hin
            · exact hx.out j (by omega) hjl
          clear hin hp
          go_wp2_with (first | (go_at_call 36; refine hh.out.mono ?_; rintro e w9 ⟨rfl, hw9⟩; obtain rfl := hw9.symm; clear hw9))
          refine ⟨⟨i + 1, by go_num, by omega, hx1, HB1.out⟩, by simp [intOf]; omega⟩
      · have hb : (oo == o) = false := by simp [hq]
        have hx1 : Hid (∀ j : Nat, j < i + 1 → ((j : Int), -1) ∈ l → ob X (j : Int) ≠ o) := fun j hj hjl => by
          by_cases e : j = i
          · subst e; rw [HOO.out]; exact hq
          · exact hx.out j (by omega) hjl
        clear hp hh
        go_wp2
        refine ⟨⟨i + 1, by go_num, by omega, hx1, HB1.out⟩, by simp [intOf]; omega⟩
    · obtain rfl : i = mo := by omega
      have HB := hid hB
      clear hB
      go_wp2
      refine bodyPost_ret (v := .tuple #[.int .i64 0, .bool false]) (by simp [results, Try.results29, go_sem]) rfl ⟨.inr ⟨fun r hr => ?_, rfl⟩, HB.out⟩
      have hrn := hok.out.range r (mem_nums.2 ⟨_, hr⟩)
      obtain ⟨k, rfl⟩ : ∃ k : Nat, r = (k : Int) := ⟨r.toNat, by omega⟩
      exact hx.out k (by omega) hr
end Go.Proofs.Ytlelglfdamakaaa
namespace Go.Proofs.Ytlelglfdamakaaa
open Go.RowKit H
set_option linter.unusedVariables false

/-- What the table holds at rest. -/
def pairs (X : List Tk) (l : Fo) : List (Cp × Int) := l.map (fun x => ((tk X x.1).1, x.1))
theorem pairs_len (X : List Tk) (l : Fo) : (pairs X l).length = l.length := by simp [pairs]
theorem mem_pairs {X : List Tk} {l : Fo} {c : Cp} {v : Int} : (c, v) ∈ pairs X l ↔ v ∈ nums l ∧ (tk X v).1 = c := by
  unfold pairs nums
  simp only [List.mem_map, Prod.mk.injEq]
  constructor
  · rintro ⟨x, hx, h1, h2⟩; subst h2; exact ⟨⟨x, hx, rfl⟩, h1⟩
  · rintro ⟨⟨x, hx, h1⟩, h2⟩; subst h1; exact ⟨x, hx, h2, rfl⟩
theorem keys_iff {X : List Tk} {l : Fo} {c : Cp} : c ∈ (pairs X l).map Prod.fst ↔ hasC X l c = true := by
  rw [hasC_iff, List.mem_map]
  constructor
  · rintro ⟨⟨a, v⟩, h, rfl⟩; exact ⟨v, (mem_pairs.1 h).1, (mem_pairs.1 h).2⟩
  · rintro ⟨n, hn, h⟩; exact ⟨(c, n), mem_pairs.2 ⟨hn, h⟩, rfl⟩
theorem pairs_ext {X Y : List Tk} {l : Fo} (h : ∀ a ∈ nums l, tk Y a = tk X a) : pairs Y l = pairs X l := by
  unfold pairs
  refine List.map_congr_left (fun x hx => ?_)
  rw [h x.1 (mem_nums.2 ⟨x.2, hx⟩)]
/-- A catalogue. -/
structure Cat (w : World) (A : Ad) (kn mo : Nat) (X : List Tk) (l : Fo) : Prop where
  cm : Cm w A kn mo (pairs X l) X l
  inv : Inv mo X l
theorem Cat.but {S : Nat → Prop} {w w' : World} {A : Ad} {kn mo : Nat} {X : List Tk} {l : Fo} (h : Cat w A kn mo X l) (hb : But S w w') (hS : ∀ k, A.All k → ¬ S k) : Cat w' A kn mo X l := ⟨h.cm.but hb hS, h.inv⟩
theorem Cat.later {w w' : World} {A : Ad} {kn mo : Nat} {X : List Tk} {l : Fo} (h : Cat w A kn mo X l) (hb : Below w.heap.size w w') : Cat w' A kn mo X l := ⟨h.cm.later hb, h.inv⟩
theorem Cat.lt {w : World} {A : Ad} {kn mo : Nat} {X : List Tk} {l : Fo} (h : Cat w A kn mo X l) : ∀ k, A.All k → k < w.heap.size := h.cm.lt
theorem Cat.lt' {w : World} {A : Ad} {kn mo : Nat} {X : List Tk} {l : Fo} (h : Cat w A kn mo X l) : ∀ k, A.Wr k → k < w.heap.size := fun k hk => h.cm.lt k (.inr (.inr hk))

/-- Which number a capability has. -/
def findN (X : List Tk) (l : Fo) (c : Cp) : Int := ((nums l).find? (fun n => decide ((tk X n).1 = c))).getD 0
theorem findN_in {m : Nat} {X : List Tk} {l : Fo} (h : Inv m X l) {n : Int} (hn : n ∈ nums l) : findN X l (tk X n).1 = n := by
  unfold findN
  cases hf : (nums l).find? (fun k => decide ((tk X k).1 = (tk X n).1)) with
  | none => have := List.find?_eq_none.1 hf n hn; simp at this
  | some k =>
    have h1 := List.find?_some hf
    have h2 := List.mem_of_find?_eq_some hf
    simp only [decide_eq_true_eq] at h1
    exact h.one k h2 n hn h1
theorem findN_out {X : List Tk} {l : Fo} {c : Cp} (h : hasC X l c = false) : findN X l c = 0 := by
  unfold findN
  rw [List.find?_eq_none.2 (fun n hn hd => ?_)]
  · rfl
  · have := hasC_iff.2 ⟨n, hn, of_decide_eq_true hd⟩
    rw [h] at this; cases this
theorem cfind_any {w : World} {A : Ad} {kn mo : Nat} {X : List Tk} {l : Fo} (h : Cat w A kn mo X l) (c : Cp) (hw : c.2.1 < B64 ∧ c.2.2 < B64) :
    Calls Try.prog 9 #[.pointer (some ⟨A.g, 0, none⟩), cpV c] w fun e w' => e = .returned (.tuple #[.int .i64 (findN X l c), .bool (hasC X l c)]) ∧ Below w.heap.size w w' := by
  by_cases hc : hasC X l c = true
  · obtain ⟨n, hn, rfl⟩ := hasC_iff.1 hc
    rw [hc, findN_in h.inv hn]
    exact find_of h.cm _ _ _ n true (fun W hW => I.get_ok (h.cm.tab.later hW) _ _ _ hw.1 hw.2 n (mem_pairs.2 ⟨hn, rfl⟩))
  · have hc' : hasC X l c = false := by simpa using hc
    rw [hc', findN_out hc']
    exact find_of h.cm _ _ _ 0 false (fun W hW => I.get_none (h.cm.tab.later hW) _ _ _ hw.1 hw.2 (fun hk => hc (keys_iff.1 hk)))
theorem ccount_any {w : World} {A : Ad} {kn mo : Nat} {X : List Tk} {l : Fo} (h : Cat w A kn mo X l) :
    Calls Try.prog 19 #[.pointer (some ⟨A.g, 0, none⟩)] w fun e w' => e = .returned (.int .i64 (l.length : Int)) ∧ w' = w := by
  have := count_any h.cm
  rwa [pairs_len] at this

/-! ### In -/
/-- How many tokens an object has. -/
def inN (X : List Tk) (l : Fo) (o : Int) : Nat := ((nums l).filter (fun n => decide (ob X n = o))).length
theorem firsts_succ (k : Nat) : firsts (k + 1) = firsts k ++ [(k : Int)] := by unfold firsts; rw [List.range_succ, List.map_append]; rfl
def inF (X : List Tk) (l : Fo) (o : Int) (k : Nat) : Nat := ((firsts k).filter (fun n => decide (n ∈ nums l ∧ ob X n = o))).length
theorem inF_le (X : List Tk) (l : Fo) (o : Int) (k : Nat) : inF X l o k ≤ k := by
  have := List.length_filter_le (fun n => decide (n ∈ nums l ∧ ob X n = o)) (firsts k)
  rw [firsts_len] at this
  exact this
theorem inF_succ (X : List Tk) (l : Fo) (o : Int) (k : Nat) : inF X l o (k + 1) = inF X l o k + (if (k : Int) ∈ nums l ∧ ob X (k : Int) = o then 1 else 0) := by
  unfold inF
  rw [firsts_succ, List.filter_append, List.length_append]
  congr 1
  by_cases h : (k : Int) ∈ nums l ∧ ob X (k : Int) = o
  · rw [if_pos h]; simp [h]
  · rw [if_neg h, List.filter_eq_nil_iff.2 (fun a ha => by rw [List.mem_singleton] at ha; subst ha; simpa using h)]; rfl
theorem same_len {A B : List Int} (hA : A.Nodup) (hB : B.Nodup) (h : ∀ x, x ∈ A ↔ x ∈ B) : A.length = B.length :=
  Nat.le_antisymm (nd_sub hA (fun x hx => (h x).1 hx)) (nd_sub hB (fun x hx => (h x).2 hx))
theorem inF_all {m : Nat} {X : List Tk} {l : Fo} (h : Ok m l) (o : Int) : inF X l o m = inN X l o := by
  refine same_len (List.Nodup.sublist List.filter_sublist (firsts_nodup m)) (List.Nodup.sublist List.filter_sublist h.nodup) (fun x => ?_)
  rw [List.mem_filter, List.mem_filter, mem_firsts, decide_eq_true_eq, decide_eq_true_eq]
  exact ⟨fun hx => hx.2, fun hx => ⟨h.range x hx.1, hx⟩⟩
end Go.Proofs.Ytlelglfdamakaaa
namespace Go.Proofs.Ytlelglfdamakaaa
open Go.RowKit H
set_option linter.unusedVariables false

/-- What an adding call answers, and what is there behind it. -/
structure Res where
  num : Int
  code : Int
  X : List Tk
  l : Fo
def addR (mo : Nat) (X : List Tk) (l : Fo) (p : Int) (c : Cp) (r : Int) : Res :=
  if hasC X l c = true then ⟨0, 19, X, l⟩ else if l.length = mo then ⟨0, 10, X, l⟩ else ⟨(low l : Int), 0, X.set (low l) (c, r), l ++ [((low l : Int), p)]⟩
def rootR (mo : Nat) (X : List Tk) (l : Fo) (c : Cp) (r : Int) : Res :=
  if validB r = false then ⟨0, 4, X, l⟩ else if hasO X l c.1 = true then ⟨0, 19, X, l⟩ else addR mo X l (-1) c r
def childR (mo : Nat) (X : List Tk) (l : Fo) (p : Int) (c : Cp) (r : Int) : Res :=
  if p ∉ nums l then ⟨0, 20, X, l⟩ else if ob X p ≠ c.1 then ⟨0, 3, X, l⟩ else if partB r (rg X p) = false then ⟨0, 4, X, l⟩ else addR mo X l p c r
/-- Behind an adding call. -/
def Done (w : World) (A : Ad) (kn mo : Nat) (R : Res) (e : Ending) (w' : World) : Prop :=
  e = .returned (.tuple #[.int .i64 R.num, .int .i64 R.code]) ∧ Cat w' A kn mo R.X R.l ∧ But A.Wr w w'
theorem Done.same {w w' : World} {A : Ad} {kn mo : Nat} {X : List Tk} {l : Fo} {c : Int} (h : Cat w A kn mo X l) (hb : Below w.heap.size w w') : Done w A kn mo ⟨0, c, X, l⟩ (.returned (.tuple #[.int .i64 0, .int .i64 c])) w' := ⟨rfl, h.later hb, But.of hb⟩
theorem Done.pre {w W w' : World} {A : Ad} {kn mo : Nat} {R : Res} {e : Ending} (hb : Below w.heap.size w W) (h : Done W A kn mo R e w') : Done w A kn mo R e w' := ⟨h.1, h.2.1, (But.of hb).trans h.2.2⟩

set_option maxRecDepth 100000 in
set_option maxHeartbeats 1000000 in
theorem add_no {w : World} {A : Ad} {kn mo : Nat} {X : List Tk} {l : Fo} (h : Cat w A kn mo X l) (p o : Int) (hi lo : Nat) (r code : Int) (hc : code ≠ 0)
    (hG : ∀ W, Below w.heap.size w W → Calls Try.prog 55 #[.pointer (some ⟨A.g, 0, none⟩), .int .i64 (low l : Int), .agg #[.int .i64 o, .int .u64 (hi : Int), .int .u64 (lo : Int), .int .i64 r]] W (fun e w' => e = .returned (.int .i64 code) ∧ Below W.heap.size W w')) :
    Calls Try.prog 30 #[.pointer (some ⟨A.g, 0, none⟩), .int .i64 p, .agg #[.int .i64 o, .int .u64 (hi : Int), .int .u64 (lo : Int)], .int .i64 r] w (Done w A kn mo ⟨0, code, X, l⟩) := by
  obtain ⟨w1, hw1⟩ : ∃ w1, w1 = w.alloc (Obj.cells #[.int .i64 o, .int .u64 (hi : Int), .int .u64 (lo : Int)] 32) := ⟨_, rfl⟩
  have hB1 : Below w.heap.size w w1 := by rw [hw1]; exact below1 _ _
  have hC : Hid (∀ U : World, Below w1.heap.size w1 U → (U.cell? ⟨w.heap.size, 0, none⟩ = some (.int .i64 o) ∧ U.cell? ⟨w.heap.size, 1, none⟩ = some (.int .u64 (hi : Int)) ∧ U.cell? ⟨w.heap.size, 2, none⟩ = some (.int .u64 (lo : Int))) ∧ Below w1.heap.size w1 U) := fun U hU =>
    ⟨⟨cell_later hU (by rw [hw1]; simp [go_sem]), cell_later hU (by rw [hw1]; simp [go_sem]), cell_later hU (by rw [hw1]; simp [go_sem])⟩, hU⟩
  have HG := hid (fun (U : World) (hU : Below w1.heap.size w1 U) => hG U (below_call hB1 hU))
  have hl := hid (lowest_any (h.cm.later hB1))
  have HB1 := hid hB1
  have HH := hid h
  have hbn : (code == 0) = false := by simp [hc]
  clear hG hB1 h
  go_enter Try.func30, Try.ntmps30
  go_upto_region 1 with fail
  rw [← hw1]
  clear hw1
  go_upto_region 2 with (first | (go_at_call 54; refine hl.out.mono ?_; rintro e w9 ⟨rfl, hw9⟩; obtain rfl := hw9.symm; clear hw9))
  go_region_held3 (fun U => (U.cell? ⟨w.heap.size, 0, none⟩ = some (.int .i64 o) ∧ U.cell? ⟨w.heap.size, 1, none⟩ = some (.int .u64 (hi : Int)) ∧ U.cell? ⟨w.heap.size, 2, none⟩ = some (.int .u64 (lo : Int))) ∧ Below w1.heap.size w1 U) (first | exact hC.out _ HB2.out | exact hC.out _ (Below.refl _ _).drew) (first
    | (go_at_call 55; refine (HG.out _ (Below.refl _ _).drew).mono ?_; rintro e w2 ⟨rfl, hb2⟩; have HB2 := hid (below_call (Below.refl w1.heap.size w1).drew hb2); clear hb2))
  go_wp2
  exact bodyPost_ret (v := .tuple #[.int .i64 0, .int .i64 code]) (by simp [results, Try.results30, go_sem]) rfl (Done.same HH.out (below_call HB1.out HB2.out))
set_option maxRecDepth 100000 in
set_option maxHeartbeats 2000000 in
theorem add_ok {w : World} {A : Ad} {kn mo : Nat} {X : List Tk} {l : Fo} (h : Cat w A kn mo X l) (p o : Int) (hi lo : Nat) (r : Int) (h1 : hi < B64) (h2 : lo < B64) (hc : hasC X l (o, hi, lo) = false) (hl : l.length < mo) (hv : validB r = true)
    (hp : (p = -1 ∧ hasO X l o = false) ∨ (p ∈ nums l ∧ ob X p = o ∧ partB r (rg X p) = true)) :
    Calls Try.prog 30 #[.pointer (some ⟨A.g, 0, none⟩), .int .i64 p, .agg #[.int .i64 o, .int .u64 (hi : Int), .int .u64 (lo : Int)], .int .i64 r] w (Done w A kn mo ⟨(low l : Int), 0, X.set (low l) ((o, hi, lo), r), l ++ [((low l : Int), p)]⟩) := by
  have hlow := low_lt h.inv.ok hl
  obtain ⟨w1, hw1⟩ : ∃ w1, w1 = w.alloc (Obj.cells #[.int .i64 o, .int .u64 (hi : Int), .int .u64 (lo : Int)] 32) := ⟨_, rfl⟩
  have hB1 : Below w.heap.size w w1 := by rw [hw1]; exact below1 _ _
  have hni : ∀ k, A.Wr k → k < w.heap.size := h.lt'
  have hC : Hid (∀ U : World, But A.Wr w1 U → (U.cell? ⟨w.heap.size, 0, none⟩ = some (.int .i64 o) ∧ U.cell? ⟨w.heap.size, 1, none⟩ = some (.int .u64 (hi : Int)) ∧ U.cell? ⟨w.heap.size, 2, none⟩ = some (.int .u64 (lo : Int))) ∧ But A.Wr w1 U) := fun U hU =>
    ⟨⟨cell_but hU (by rw [hw1]; simp [go_sem]) (fun hs => by have := hni _ hs; simp at this), cell_but hU (by rw [hw1]; simp [go_sem]) (fun hs => by have := hni _ hs; simp at this), cell_but hU (by rw [hw1]; simp [go_sem]) (fun hs => by have := hni _ hs; simp at this)⟩, hU⟩
  have hpl : p = -1 ∨ p ∈ nums l := hp.imp (·.1) (·.1)
  have hG := fun (U : World) (hU : Below w1.heap.size w1 U) => note_ok (h.cm.later (below_call hB1 hU)) (low l) hlow o hi lo r (fun W hW => I.put_ok ((h.cm.later (below_call hB1 hU)).tab.later hW) o hi lo (low l : Int) h1 h2 (fun hk => by rw [keys_iff.1 hk] at hc; cases hc) (by rw [pairs_len]; exact hl))
  have HE : Hid (pairs X l ++ [((o, hi, lo), (low l : Int))] = pairs (X.set (low l) ((o, hi, lo), r)) (l ++ [((low l : Int), p)])) := by
    unfold Hid
    have e1 : pairs (X.set (low l) ((o, hi, lo), r)) (l ++ [((low l : Int), p)]) = pairs (X.set (low l) ((o, hi, lo), r)) l ++ [((tk (X.set (low l) ((o, hi, lo), r)) (low l : Int)).1, (low l : Int))] := by simp [pairs]
    rw [e1, tk_set_same _ (by rw [h.inv.len]; exact hlow), pairs_ext (fun a ha => tk_set_other _ (nums_nn h.inv.ok ha) (fun e => low_not l (e ▸ ha)))]
  have HI := hid (h.inv.add (c := (o, hi, lo)) hlow (low_not l) hc ⟨h1, h2⟩ hv hp)
  have HJ := hid (fun (U : World) T (hU : Cm U A kn mo T (X.set (low l) ((o, hi, lo), r)) l) => join_any hU p (low l) hlow (low_not l) hpl)
  have HG := hid hG
  have hlo := hid (lowest_any (h.cm.later hB1))
  have HB1 := hid hB1
  clear hG hB1 h hp hpl hni hc hl
  go_enter Try.func30, Try.ntmps30
  go_upto_region 1 with fail
  rw [← hw1]
  clear hw1
  go_upto_region 2 with (first | (go_at_call 54; refine hlo.out.mono ?_; rintro e w9 ⟨rfl, hw9⟩; obtain rfl := hw9.symm; clear hw9))
  go_region_held3 (fun U => (U.cell? ⟨w.heap.size, 0, none⟩ = some (.int .i64 o) ∧ U.cell? ⟨w.heap.size, 1, none⟩ = some (.int .u64 (hi : Int)) ∧ U.cell? ⟨w.heap.size, 2, none⟩ = some (.int .u64 (lo : Int))) ∧ But A.Wr w1 U) (first | exact hC.out _ HB2.out | exact hC.out _ (But.of (Below.refl _ _).drew)) (first
    | (go_at_call 55; refine (HG.out _ (Below.refl _ _).drew).mono ?_; rintro e w2 ⟨rfl, hc2, hb2⟩; have HB2 := hid ((But.of (S := A.Wr) (Below.refl w1.heap.size w1).drew).trans hb2); have HC2 := hid hc2; clear hb2 hc2))
  go_wp2_with (first | (go_at_call 56; refine (HJ.out _ _ HC2.out).mono ?_; rintro e w3 ⟨rfl, hc3, hb3⟩; have HC3 := hid hc3; have HB3 := hid hb3; clear hc3 hb3))
  refine bodyPost_ret (v := .tuple #[.int .i64 (low l : Int), .int .i64 0]) (by simp [results, Try.results30, go_sem]) rfl ⟨rfl, ⟨?_, HI.out⟩, (But.of HB1.out).trans (HB2.out.trans HB3.out)⟩
  have := HC3.out
  rw [HE.out] at this
  exact this
theorem add_any {w : World} {A : Ad} {kn mo : Nat} {X : List Tk} {l : Fo} (h : Cat w A kn mo X l) (p : Int) (c : Cp) (r : Int) (hw : c.2.1 < B64 ∧ c.2.2 < B64) (hv : validB r = true)
    (hp : (p = -1 ∧ hasO X l c.1 = false) ∨ (p ∈ nums l ∧ ob X p = c.1 ∧ partB r (rg X p) = true)) :
    Calls Try.prog 30 #[.pointer (some ⟨A.g, 0, none⟩), .int .i64 p, cpV c, .int .i64 r] w (Done w A kn mo (addR mo X l p c r)) := by
  obtain ⟨o, hi, lo⟩ := c
  unfold addR
  by_cases hc : hasC X l (o, hi, lo) = true
  · rw [if_pos hc]
    exact add_no h p o hi lo r 19 (by decide) (fun W hW => note_no (h.cm.later hW) _ o hi lo r 19 (by decide) (fun U hU => I.put_there ((h.cm.later hW).tab.later hU) o hi lo _ hw.1 hw.2 (keys_iff.2 hc)))
  · rw [if_neg hc]
    have hk : (o, hi, lo) ∉ (pairs X l).map Prod.fst := fun hk => hc (keys_iff.1 hk)
    by_cases hl : l.length = mo
    · rw [if_pos hl]
      exact add_no h p o hi lo r 10 (by decide) (fun W hW => note_no (h.cm.later hW) _ o hi lo r 10 (by decide) (fun U hU => I.put_full ((h.cm.later hW).tab.later hU) o hi lo _ hw.1 hw.2 hk (by rw [pairs_len]; exact hl)))
    · rw [if_neg hl]
      have hle := h.inv.ok.len
      exact add_ok h p o hi lo r hw.1 hw.2 (by simpa using hc) (by omega) hv hp
/-- Is an object there, its root is. -/
theorem Inv.rootO {m : Nat} {X : List Tk} {l : Fo} (h : Inv m X l) {o : Int} : hasO X l o = true ↔ ∃ r, (r, -1) ∈ l ∧ ob X r = o := by
  rw [hasO_iff]
  constructor
  · rintro ⟨n, hn, rfl⟩
    obtain ⟨r, h1, h2, _⟩ := h.toRoot n hn
    exact ⟨r, h1, h2⟩
  · rintro ⟨r, h1, h2⟩
    exact ⟨r, mem_nums.2 ⟨_, h1⟩, h2⟩
set_option maxRecDepth 100000 in
set_option maxHeartbeats 2000000 in
theorem croot_of {w : World} {A : Ad} {kn mo : Nat} {X : List Tk} {l : Fo} (h : Cat w A kn mo X l) (c : Cp) (r : Int) (hw : c.2.1 < B64 ∧ c.2.2 < B64) :
    Calls Try.prog 8 #[.pointer (some ⟨A.g, 0, none⟩), cpV c, .int .i64 r] w (Done w A kn mo (rootR mo X l c r)) := by
  obtain ⟨o, hi, lo⟩ := c
  obtain ⟨w1, hw1⟩ : ∃ w1, w1 = w.alloc (Obj.cells #[.int .i64 o, .int .u64 (hi : Int), .int .u64 (lo : Int)] 32) := ⟨_, rfl⟩
  have hB1 : Below w.heap.size w w1 := by rw [hw1]; exact below1 _ _
  have z0 : w1.cell? ⟨w.heap.size, 0, none⟩ = some (.int .i64 o) := by rw [hw1]; simp [go_sem]
  have HZ : Hid (∀ U, Below w1.heap.size w1 U → U.cell? ⟨w.heap.size, 0, none⟩ = some (.int .i64 o) ∧ U.cell? ⟨w.heap.size, 1, none⟩ = some (.int .u64 (hi : Int)) ∧ U.cell? ⟨w.heap.size, 2, none⟩ = some (.int .u64 (lo : Int))) := fun U hU =>
    ⟨cell_later hU (by rw [hw1]; simp [go_sem]), cell_later hU (by rw [hw1]; simp [go_sem]), cell_later hU (by rw [hw1]; simp [go_sem])⟩
  have HB1 := hid hB1
  have HH := hid h
  have H1 := hid (h.later hB1)
  unfold rootR
  clear h hB1
  by_cases hv : validB r = true
  · rw [if_neg (by rw [hv]; decide)]
    by_cases ho : hasO X l o = true
    · rw [if_pos ho]
      go_enter Try.func8, Try.ntmps8
      go_upto_region 1 with fail
      rw [← hw1]
      clear hw1
      go_upto_region 4 with (first | (go_at_call 29; refine (croot_any H1.out.cm o).mono ?_; rintro e w2 ⟨⟨rt, hr1, hr2, rfl⟩ | ⟨hr1, rfl⟩, hb2⟩ <;> have HB2 := hid hb2 <;> clear hb2) | (go_at_call 28; refine (valid_any _ _).mono ?_; rintro e w9 ⟨rfl, hw9⟩; obtain rfl := hw9.symm; clear hw9; rw [hv]))
      · go_wp2
        exact bodyPost_ret (v := .tuple #[.int .i64 0, .int .i64 19]) (by simp [results, Try.results8, go_sem]) rfl (Done.same HH.out (below_call HB1.out HB2.out))
      · exfalso
        obtain ⟨r', h1, h2⟩ := HH.out.inv.rootO.1 ho
        exact hr1 r' h1 h2
    · rw [if_neg ho]
      have HA := hid (fun (U : World) (hU : Below w.heap.size w U) => add_any (HH.out.later hU) (-1) (o, hi, lo) r hw hv (.inl ⟨rfl, by simpa using ho⟩))
      go_enter Try.func8, Try.ntmps8
      go_upto_region 1 with fail
      rw [← hw1]
      clear hw1
      go_upto_region 4 with (first | (go_at_call 29; refine (croot_any H1.out.cm o).mono ?_; rintro e w2 ⟨⟨rt, hr1, hr2, rfl⟩ | ⟨hr1, rfl⟩, hb2⟩ <;> have HB2 := hid hb2 <;> clear hb2) | (go_at_call 28; refine (valid_any _ _).mono ?_; rintro e w9 ⟨rfl, hw9⟩; obtain rfl := hw9.symm; clear hw9; rw [hv]))
      · exfalso
        exact ho (HH.out.inv.rootO.2 ⟨rt, hr1, hr2⟩)
      · obtain ⟨y0, y1, y2⟩ := HZ.out _ HB2.out
        generalize addR mo X l (-1) (o, hi, lo) r = R at *
        go_wp2_with (first | (go_at_call 30; refine (HA.out _ (below_call HB1.out HB2.out)).mono ?_; rintro e w3 hd; have hd1 := hd.1; subst hd1; have HD := hid hd; clear hd))
        exact bodyPost_ret (v := .tuple #[.int .i64 R.num, .int .i64 R.code]) (by simp [results, Try.results8, go_sem]) rfl (HD.out.pre (below_call HB1.out HB2.out))
  · have hv' : validB r = false := by simpa using hv
    rw [if_pos hv']
    go_enter Try.func8, Try.ntmps8
    go_upto_region 1 with fail
    rw [← hw1]
    clear hw1
    go_wp2_with (first | (go_at_call 28; refine (valid_any _ _).mono ?_; rintro e w9 ⟨rfl, hw9⟩; obtain rfl := hw9.symm; clear hw9; rw [hv']))
    exact bodyPost_ret (v := .tuple #[.int .i64 0, .int .i64 4]) (by simp [results, Try.results8, go_sem]) rfl (Done.same HH.out HB1.out)
end Go.Proofs.Ytlelglfdamakaaa
