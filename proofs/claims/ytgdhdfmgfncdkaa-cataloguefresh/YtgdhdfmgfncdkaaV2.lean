import Derived.Test.YtgdhdfmgfncdkaaV1
import Derived.Test.YtgdhdfmgfncdkaaC5
import Derived.Test.YtgdhdfmgfncdkaaT9I
import Derived.Laws.Bits128
import Derived.Laws.BitsAllLaws
namespace Go.Proofs.Ytgdhdfmgfncdkaa
open Go.RowKit H
set_option linter.unusedVariables false

/-! ### Package mask -/
theorem i64_and_nat (a b : Nat) (ha : a < 32) (hb : b < 32) : bits .and .i64 (a : Int) (b : Int) = ((a &&& b : Nat) : Int) := by
  have hx : a &&& b < 2 ^ 5 := Nat.and_lt_two_pow _ (by omega)
  show IntKind.i64.wrap ((BitVec.ofInt 64 (a : Int) &&& BitVec.ofInt 64 (b : Int)).toNat : Int) = _
  rw [BitVec.toNat_and, BitVec.ofInt_natCast, BitVec.ofInt_natCast, BitVec.toNat_ofNat, BitVec.toNat_ofNat, Nat.mod_eq_of_lt (a := a) (by omega), Nat.mod_eq_of_lt (a := b) (by omega), IntKind.wrap_i64]
  omega
theorem valid_nat {r : Int} (h : validB r = true) : ∃ n : Nat, r = (n : Int) ∧ 1 ≤ n ∧ n < 32 := by
  have := validB_iff.1 h
  exact ⟨r.toNat, by omega, by omega, by omega⟩
theorem beq_nat (x y : Nat) : ((x : Int) == (y : Int)) = decide (x = y) := by
  by_cases h : x = y
  · subst h; simp
  · rw [decide_eq_false h]
    simp
    omega
theorem valid_any (r : Int) (w : World) :
    Calls Try.prog 44 #[.int .i64 r] w fun e w' => e = .returned (.bool (validB r)) ∧ w' = w := by
  by_cases h1 : 0 < r
  · by_cases h2 : r ≤ 31
    · have hz : validB r = true := decide_eq_true (by omega)
      rw [hz]; clear hz
      go_enter Try.func44, Try.ntmps44
      go_wp2
      go_ret
      exact ⟨rfl, rfl⟩
    · have hz : validB r = false := decide_eq_false (by omega)
      rw [hz]; clear hz
      go_enter Try.func44, Try.ntmps44
      go_wp2
      go_ret
      exact ⟨rfl, rfl⟩
  · have hz : validB r = false := decide_eq_false (by omega)
    rw [hz]; clear hz
    go_enter Try.func44, Try.ntmps44
    go_wp2
    go_ret
    exact ⟨rfl, rfl⟩
theorem part_any (a b : Int) (w : World) :
    Calls Try.prog 46 #[.int .i64 a, .int .i64 b] w fun e w' => e = .returned (.bool (partB a b)) ∧ w' = w := by
  by_cases h1 : validB a = true
  · by_cases h2 : validB b = true
    · obtain ⟨n, rfl, _, hn⟩ := valid_nat h1
      obtain ⟨m, rfl, _, hm⟩ := valid_nat h2
      have hb := i64_and_nat n m hn hm
      have HP : Hid (partB (n : Int) (m : Int) = decide (n &&& m = n)) := by unfold Hid partB; rw [h1, h2]; simp
      go_enter Try.func46, Try.ntmps46
      go_wp2_with (first | (go_at_call 44; refine (valid_any _ _).mono ?_; rintro e w1 ⟨rfl, rfl⟩))
      go_ret
      refine ⟨?_, rfl⟩
      rw [HP.out]
      apply ret_bool
      exact beq_nat _ _
    · have h2 : validB b = false := by simpa using h2
      have hz : partB a b = false := by unfold partB; rw [h2]; simp
      rw [hz]; clear hz
      go_enter Try.func46, Try.ntmps46
      go_wp2_with (first | (go_at_call 44; refine (valid_any _ _).mono ?_; rintro e w1 ⟨rfl, rfl⟩))
      go_ret
      exact ⟨rfl, rfl⟩
  · have h1 : validB a = false := by simpa using h1
    have hz : partB a b = false := by unfold partB; rw [h1]; simp
    rw [hz]; clear hz
    go_enter Try.func46, Try.ntmps46
    go_wp2_with (first | (go_at_call 44; refine (valid_any _ _).mono ?_; rintro e w1 ⟨rfl, rfl⟩))
    go_ret
    exact ⟨rfl, rfl⟩

/-! ### A catalogue in memory -/
/-- Where a catalogue's parts lie: itself, the table, its places, the entries, the forest, its nodes; how many places. -/
structure Ad where
  g : Nat
  tg : Nat
  tb : Nat
  eb : Nat
  kg : Nat
  kb : Nat
  N : Nat
/-- The blocks that are written. -/
def Ad.Wr (A : Ad) (k : Nat) : Prop := k = A.tg ∨ k = A.tb ∨ k = A.eb ∨ k = A.kb
/-- All its blocks. -/
def Ad.All (A : Ad) (k : Nat) : Prop := k = A.g ∨ k = A.kg ∨ A.Wr k
structure Ad.Dis (A : Ad) : Prop where
  d1 : A.tg ≠ A.g
  d2 : A.tb ≠ A.g
  d3 : A.eb ≠ A.g
  d4 : A.kb ≠ A.g
  d5 : A.tg ≠ A.eb
  d6 : A.tb ≠ A.eb
  d7 : A.tg ≠ A.kg
  d8 : A.tb ≠ A.kg
  d9 : A.tg ≠ A.kb
  da : A.tb ≠ A.kb
  db : A.eb ≠ A.kg
  dc : A.eb ≠ A.kb
/-- An entry in memory. -/
structure Pe (w : World) (b o : Nat) (x : Tk) : Prop where
  c0 : w.cell? ⟨b, o, none⟩ = some (.int .i64 x.1.1)
  c1 : w.cell? ⟨b, o + 1, none⟩ = some (.int .u64 (x.1.2.1 : Int))
  c2 : w.cell? ⟨b, o + 2, none⟩ = some (.int .u64 (x.1.2.2 : Int))
  c3 : w.cell? ⟨b, o + 3, none⟩ = some (.int .i64 x.2)
theorem Pe.but {S : Nat → Prop} {w w' : World} {b o : Nat} {x : Tk} (hb : But S w w') (h : Pe w b o x) (hn : ¬ S b) : Pe w' b o x :=
  ⟨cell_but hb h.c0 hn, cell_but hb h.c1 hn, cell_but hb h.c2 hn, cell_but hb h.c3 hn⟩
theorem Pe.later {w w' : World} {b o : Nat} {x : Tk} (hb : Below w.heap.size w w') (h : Pe w b o x) : Pe w' b o x := h.but (S := fun _ => False) (But.of hb) (fun h => h)
theorem Pe.off {w : World} {b o o' : Nat} {x : Tk} {u : Value} (h : Pe w b o x) (hne : o' < o ∨ o + 4 ≤ o') : Pe (w.setCell ⟨b, o', none⟩ u) b o x :=
  ⟨cell_ne h.c0 (by omega), cell_ne h.c1 (by omega), cell_ne h.c2 (by omega), cell_ne h.c3 (by omega)⟩
/-- A whole entry is written. -/
def setE (w : World) (b o : Nat) (x : Tk) : World :=
  (((w.setCell ⟨b, o, none⟩ (.int .i64 x.1.1)).setCell ⟨b, o + 1, none⟩ (.int .u64 (x.1.2.1 : Int))).setCell ⟨b, o + 2, none⟩ (.int .u64 (x.1.2.2 : Int))).setCell ⟨b, o + 3, none⟩ (.int .i64 x.2)
theorem setE_but {S : Nat → Prop} {a w : World} (h : But S a w) {b : Nat} (hb : S b) (o : Nat) (x : Tk) : But S a (setE w b o x) :=
  (((h.setCell (p := ⟨b, o, none⟩) hb _).setCell (p := ⟨b, o + 1, none⟩) hb _).setCell (p := ⟨b, o + 2, none⟩) hb _).setCell (p := ⟨b, o + 3, none⟩) hb _
theorem Pe.set {w : World} {b o : Nat} {y : Tk} (h : Pe w b o y) (x : Tk) : Pe (setE w b o x) b o x := by
  unfold setE
  refine ⟨?_, ?_, ?_, ?_⟩
  · exact cell_ne (cell_ne (cell_ne (World.cell?_setCell_same _ _ _ h.c0) (by omega)) (by omega)) (by omega)
  · exact cell_ne (cell_ne (World.cell?_setCell_same _ _ _ (cell_ne h.c1 (by omega))) (by omega)) (by omega)
  · exact cell_ne (World.cell?_setCell_same _ _ _ (cell_ne (cell_ne h.c2 (by omega)) (by omega))) (by omega)
  · exact World.cell?_setCell_same _ _ _ (cell_ne (cell_ne (cell_ne h.c3 (by omega)) (by omega)) (by omega))
theorem Pe.setOff {w : World} {b o o' : Nat} {y : Tk} (h : Pe w b o y) (x : Tk) (hne : o' + 4 ≤ o ∨ o + 4 ≤ o') : Pe (setE w b o' x) b o y := by
  unfold setE
  exact (((h.off (by omega)).off (by omega)).off (by omega)).off (by omega)

/-- A catalogue in memory: the table's pairs T, the entries X, the forest l. -/
structure Cm (w : World) (A : Ad) (kn mo : Nat) (T : List (Cp × Int)) (X : List Tk) (l : Fo) : Prop where
  c0 : w.cell? ⟨A.g, 0, none⟩ = some (.pointer (some ⟨A.tg, 0, none⟩))
  c1 : w.cell? ⟨A.g, 1, none⟩ = some (.slice (some ⟨A.eb, 0, none⟩) mo mo)
  c2 : w.cell? ⟨A.g, 2, none⟩ = some (.pointer (some ⟨A.kg, 0, none⟩))
  tab : I.Tb w A.tg A.tb kn mo A.N T
  kin : Ki w A.kg A.kb mo l
  ent : ∀ (i : Nat) (x : Tk), X[i]? = some x → Pe w A.eb (i * 4) x
  fr : ∀ j, w.frozen? ⟨A.eb, j, none⟩ = false
  lte : A.eb < w.heap.size
  len : X.length = mo
  dis : A.Dis
theorem Cm.but {S : Nat → Prop} {w w' : World} {A : Ad} {kn mo : Nat} {T : List (Cp × Int)} {X : List Tk} {l : Fo} (hb : But S w w') (h : Cm w A kn mo T X l) (hS : ∀ k, A.All k → ¬ S k) : Cm w' A kn mo T X l :=
  ⟨cell_but hb h.c0 (hS _ (.inl rfl)), cell_but hb h.c1 (hS _ (.inl rfl)), cell_but hb h.c2 (hS _ (.inl rfl)), h.tab.but hb (hS _ (.inr (.inr (.inl rfl)))) (hS _ (.inr (.inr (.inr (.inl rfl))))), h.kin.but hb (hS _ (.inr (.inl rfl))) (hS _ (.inr (.inr (.inr (.inr (.inr rfl)))))),
    fun i x hx => (h.ent i x hx).but hb (hS _ (.inr (.inr (.inr (.inr (.inl rfl)))))), fun j => by rw [World.frozen?_of_block (w := w) (hb.block A.eb h.lte (hS _ (.inr (.inr (.inr (.inr (.inl rfl)))))))]; exact h.fr j, Nat.lt_of_lt_of_le h.lte hb.size, h.len, h.dis⟩
theorem Cm.later {w w' : World} {A : Ad} {kn mo : Nat} {T : List (Cp × Int)} {X : List Tk} {l : Fo} (hb : Below w.heap.size w w') (h : Cm w A kn mo T X l) : Cm w' A kn mo T X l := h.but (S := fun _ => False) (But.of hb) (fun _ _ h => h)
theorem Ki.lt1 {w : World} {g gb m : Nat} {l : Fo} (h : Ki w g gb m l) : g < w.heap.size ∧ gb < w.heap.size := by
  obtain ⟨N, h1, h2⟩ := h
  exact ⟨h1.lt, h1.lt2⟩
theorem Cm.lt {w : World} {A : Ad} {kn mo : Nat} {T : List (Cp × Int)} {X : List Tk} {l : Fo} (h : Cm w A kn mo T X l) : ∀ k, A.All k → k < w.heap.size := by
  rintro k (rfl | rfl | rfl | rfl | rfl | rfl)
  · exact World.block_lt_of_cell? _ _ h.c0
  · exact h.kin.lt1.1
  · exact h.tab.lt
  · exact h.tab.lt2
  · exact h.lte
  · exact h.kin.lt1.2
theorem Cm.small {w : World} {A : Ad} {kn mo : Nat} {T : List (Cp × Int)} {X : List Tk} {l : Fo} (h : Cm w A kn mo T X l) : mo ≤ 512 := h.tab.small
/-- The table has changed. -/
theorem Cm.setT {w w' : World} {A : Ad} {kn mo : Nat} {T T' : List (Cp × Int)} {X : List Tk} {l : Fo} (h : Cm w A kn mo T X l) (hb : But (I.In A.tg A.tb) w w') (ht : I.Tb w' A.tg A.tb kn mo A.N T') : Cm w' A kn mo T' X l := by
  have d := h.dis
  have n1 : ¬ I.In A.tg A.tb A.g := by rintro (e | e); exact d.d1 e.symm; exact d.d2 e.symm
  have n2 : ¬ I.In A.tg A.tb A.eb := by rintro (e | e); exact d.d5 e.symm; exact d.d6 e.symm
  exact ⟨cell_but hb h.c0 n1, cell_but hb h.c1 n1, cell_but hb h.c2 n1, ht, h.kin.but hb (by rintro (e | e); exact d.d7 e.symm; exact d.d8 e.symm) (by rintro (e | e); exact d.d9 e.symm; exact d.da e.symm),
    fun i x hx => (h.ent i x hx).but hb n2, fun j => by rw [World.frozen?_of_block (w := w) (hb.block A.eb h.lte n2)]; exact h.fr j, Nat.lt_of_lt_of_le h.lte hb.size, h.len, d⟩
/-- The forest has changed. -/
theorem Cm.setK {w w' : World} {A : Ad} {kn mo : Nat} {T : List (Cp × Int)} {X : List Tk} {l l' : Fo} (h : Cm w A kn mo T X l) (hb : But (· = A.kb) w w') (hk : Ki w' A.kg A.kb mo l') : Cm w' A kn mo T X l' := by
  have d := h.dis
  exact ⟨cell_but hb h.c0 (fun e => d.d4 e.symm), cell_but hb h.c1 (fun e => d.d4 e.symm), cell_but hb h.c2 (fun e => d.d4 e.symm), h.tab.but hb d.d9 d.da, hk,
    fun i x hx => (h.ent i x hx).but hb d.dc, fun j => by rw [World.frozen?_of_block (w := w) (hb.block A.eb h.lte d.dc)]; exact h.fr j, Nat.lt_of_lt_of_le h.lte hb.size, h.len, d⟩
/-- An entry is written. -/
theorem Cm.setX {w : World} {A : Ad} {kn mo : Nat} {T : List (Cp × Int)} {X : List Tk} {l : Fo} (h : Cm w A kn mo T X l) {i : Nat} (hi : i < mo) (x : Tk) : Cm (setE w A.eb (i * 4) x) A kn mo T (X.set i x) l := by
  have d := h.dis
  have hb : But (· = A.eb) w (setE w A.eb (i * 4) x) := setE_but (S := (· = A.eb)) (But.refl _ _) rfl _ _
  obtain ⟨y, hy⟩ := get_some (L := X) (i := i) (by rw [h.len]; exact hi)
  refine ⟨cell_but hb h.c0 (fun e => d.d3 e.symm), cell_but hb h.c1 (fun e => d.d3 e.symm), cell_but hb h.c2 (fun e => d.d3 e.symm), h.tab.but hb d.d5 d.d6, h.kin.but hb (fun e => d.db e.symm) (fun e => d.dc e.symm), fun j z hz => ?_, fun j => by simpa [setE] using h.fr j, Nat.lt_of_lt_of_le h.lte hb.size, by rw [List.length_set]; exact h.len, d⟩
  rcases Go.Proofs.Ytgdhdfmgfncdkaa.get_set hz with ⟨rfl, rfl⟩ | ⟨hne, h3⟩
  · exact (h.ent _ y hy).set _
  · exact (h.ent _ _ h3).setOff _ (by omega)
theorem Cm.at_ {w : World} {A : Ad} {kn mo : Nat} {T : List (Cp × Int)} {X : List Tk} {l : Fo} (h : Cm w A kn mo T X l) {i : Nat} (hi : i < mo) : Pe w A.eb (i * 4) (tk X (i : Int)) := by
  obtain ⟨y, hy⟩ := get_some (L := X) (i := i) (by rw [h.len]; exact hi)
  have : tk X (i : Int) = y := by unfold tk; simp [hy]
  rw [this]
  exact h.ent i y hy

/-! ### The tree's and the table's small methods -/
set_option maxRecDepth 100000 in
set_option maxHeartbeats 1000000 in
theorem chas_any {w : World} {A : Ad} {kn mo : Nat} {T : List (Cp × Int)} {X : List Tk} {l : Fo} (h : Cm w A kn mo T X l) (n : Int) :
    Calls Try.prog 26 #[.pointer (some ⟨A.g, 2, none⟩), .int .i64 n] w fun e w' => e = .returned (.bool (decide (n ∈ nums l))) ∧ w' = w := by
  have hc := hid (has_any h.kin n)
  have x2 := h.c2
  clear h
  go_enter Try.func26, Try.ntmps26
  go_wp2_with (first | (go_at_call 47; refine hc.out.mono ?_; rintro e w1 ⟨rfl, rfl⟩))
  go_ret
  exact ⟨rfl, rfl⟩
set_option maxRecDepth 100000 in
set_option maxHeartbeats 1000000 in
theorem cpar_any {w : World} {A : Ad} {kn mo : Nat} {T : List (Cp × Int)} {X : List Tk} {l : Fo} (h : Cm w A kn mo T X l) (n p : Int) (hp : (n, p) ∈ l) :
    Calls Try.prog 27 #[.pointer (some ⟨A.g, 2, none⟩), .int .i64 n] w fun e w' => e = .returned (.int .i64 p) ∧ w' = w := by
  have hc := hid (parent_in h.kin n p hp)
  have x2 := h.c2
  clear h hp
  go_enter Try.func27, Try.ntmps27
  go_wp2_with (first | (go_at_call 48; refine hc.out.mono ?_; rintro e w1 ⟨rfl, rfl⟩))
  go_ret
  exact ⟨rfl, rfl⟩
theorem tb_len {w : World} {g gb kn mo N : Nat} {E : List (Cp × Int)} (h : I.Tb w g gb kn mo N E) : Calls Try.prog 50 #[.pointer (some ⟨g, 0, none⟩)] w fun e w' => e = .returned (.int .i64 (E.length : Int)) ∧ w' = w := by
  obtain ⟨L, sp, h⟩ := h
  exact I.len_any h.tm
set_option maxRecDepth 100000 in
set_option maxHeartbeats 1000000 in
theorem count_any {w : World} {A : Ad} {kn mo : Nat} {T : List (Cp × Int)} {X : List Tk} {l : Fo} (h : Cm w A kn mo T X l) :
    Calls Try.prog 13 #[.pointer (some ⟨A.g, 0, none⟩)] w fun e w' => e = .returned (.int .i64 (T.length : Int)) ∧ w' = w := by
  have hc := hid (tb_len h.tab)
  have x0 := h.c0
  clear h
  have hd : Calls Try.prog 29 #[.pointer (some ⟨A.g, 0, none⟩)] w fun e w' => e = .returned (.int .i64 (T.length : Int)) ∧ w' = w := by
    go_enter Try.func29, Try.ntmps29
    go_wp2_with (first | (go_at_call 50; refine hc.out.mono ?_; rintro e w1 ⟨rfl, rfl⟩))
    go_ret
    exact ⟨rfl, rfl⟩
  have hd := hid hd
  clear hc x0
  go_enter Try.func13, Try.ntmps13
  go_wp2_with (first | (go_at_call 29; refine hd.out.mono ?_; rintro e w1 ⟨rfl, rfl⟩))
  go_ret
  exact ⟨rfl, rfl⟩
/-- A capability as it is handed. -/
abbrev cpV (c : Cp) : Value := .agg #[.int .i64 c.1, .int .u64 (c.2.1 : Int), .int .u64 (c.2.2 : Int)]
end Go.Proofs.Ytgdhdfmgfncdkaa
