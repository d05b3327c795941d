import Derived.Test.YtciidjhadijhdaaVH
namespace Go.Proofs.Ytciidjhadijhdaa
open Go.RowKit Go.Shelf H
set_option linter.unusedVariables false

/-! ### The document's catalogue -/
/-- A place: a token, if live; when it was put in. -/
structure Pc where
  lv : Bool
  c : Cp
  r : Int
  p : Int
  wh : Int
structure Pp (w : World) (b o : Nat) (x : Pc) : Prop where
  c0 : w.cell? ⟨b, o, none⟩ = some (.bool x.lv)
  c1 : w.cell? ⟨b, o + 1, none⟩ = some (.int .i64 x.c.1)
  c2 : w.cell? ⟨b, o + 2, none⟩ = some (.int .u64 (x.c.2.1 : Int))
  c3 : w.cell? ⟨b, o + 3, none⟩ = some (.int .u64 (x.c.2.2 : Int))
  c4 : w.cell? ⟨b, o + 4, none⟩ = some (.int .i64 x.r)
  c5 : w.cell? ⟨b, o + 5, none⟩ = some (.int .i64 x.p)
  c6 : w.cell? ⟨b, o + 6, none⟩ = some (.int .i64 x.wh)
theorem Pp.but {S : Nat → Prop} {w w' : World} {b o : Nat} {x : Pc} (hb : But S w w') (h : Pp w b o x) (hn : ¬ S b) : Pp w' b o x :=
  ⟨cell_but hb h.c0 hn, cell_but hb h.c1 hn, cell_but hb h.c2 hn, cell_but hb h.c3 hn, cell_but hb h.c4 hn, cell_but hb h.c5 hn, cell_but hb h.c6 hn⟩
theorem Pp.off {w : World} {b o o' : Nat} {x : Pc} {u : Value} (h : Pp w b o x) (hne : o' < o ∨ o + 7 ≤ o') : Pp (w.setCell ⟨b, o', none⟩ u) b o x :=
  ⟨cell_ne h.c0 (by omega), cell_ne h.c1 (by omega), cell_ne h.c2 (by omega), cell_ne h.c3 (by omega), cell_ne h.c4 (by omega), cell_ne h.c5 (by omega), cell_ne h.c6 (by omega)⟩
def set7 (w : World) (b o : Nat) (x : Pc) : World :=
  ((((((w.setCell ⟨b, o, none⟩ (.bool x.lv)).setCell ⟨b, o + 1, none⟩ (.int .i64 x.c.1)).setCell ⟨b, o + 2, none⟩ (.int .u64 (x.c.2.1 : Int))).setCell ⟨b, o + 3, none⟩ (.int .u64 (x.c.2.2 : Int))).setCell ⟨b, o + 4, none⟩ (.int .i64 x.r)).setCell ⟨b, o + 5, none⟩ (.int .i64 x.p)).setCell ⟨b, o + 6, none⟩ (.int .i64 x.wh)
theorem set7_but {S : Nat → Prop} {a w : World} (h : But S a w) {b : Nat} (hb : S b) (o : Nat) (x : Pc) : But S a (set7 w b o x) :=
  ((((((h.setCell (p := ⟨b, o, none⟩) hb _).setCell (p := ⟨b, o + 1, none⟩) hb _).setCell (p := ⟨b, o + 2, none⟩) hb _).setCell (p := ⟨b, o + 3, none⟩) hb _).setCell (p := ⟨b, o + 4, none⟩) hb _).setCell (p := ⟨b, o + 5, none⟩) hb _).setCell (p := ⟨b, o + 6, none⟩) hb _
theorem Pp.set {w : World} {b o : Nat} {y : Pc} (h : Pp w b o y) (x : Pc) : Pp (set7 w b o x) b o x := by
  unfold set7
  refine ⟨?_, ?_, ?_, ?_, ?_, ?_, ?_⟩
  · exact cell_ne (cell_ne (cell_ne (cell_ne (cell_ne (cell_ne (World.cell?_setCell_same _ _ _ h.c0) (by omega)) (by omega)) (by omega)) (by omega)) (by omega)) (by omega)
  · exact cell_ne (cell_ne (cell_ne (cell_ne (cell_ne (World.cell?_setCell_same _ _ _ (cell_ne h.c1 (by omega))) (by omega)) (by omega)) (by omega)) (by omega)) (by omega)
  · exact cell_ne (cell_ne (cell_ne (cell_ne (World.cell?_setCell_same _ _ _ (cell_ne (cell_ne h.c2 (by omega)) (by omega))) (by omega)) (by omega)) (by omega)) (by omega)
  · exact cell_ne (cell_ne (cell_ne (World.cell?_setCell_same _ _ _ (cell_ne (cell_ne (cell_ne h.c3 (by omega)) (by omega)) (by omega))) (by omega)) (by omega)) (by omega)
  · exact cell_ne (cell_ne (World.cell?_setCell_same _ _ _ (cell_ne (cell_ne (cell_ne (cell_ne h.c4 (by omega)) (by omega)) (by omega)) (by omega))) (by omega)) (by omega)
  · exact cell_ne (World.cell?_setCell_same _ _ _ (cell_ne (cell_ne (cell_ne (cell_ne (cell_ne h.c5 (by omega)) (by omega)) (by omega)) (by omega)) (by omega))) (by omega)
  · exact World.cell?_setCell_same _ _ _ (cell_ne (cell_ne (cell_ne (cell_ne (cell_ne (cell_ne h.c6 (by omega)) (by omega)) (by omega)) (by omega)) (by omega)) (by omega))
theorem Pp.setOff {w : World} {b o o' : Nat} {y : Pc} (h : Pp w b o y) (x : Pc) (hne : o' + 7 ≤ o ∨ o + 7 ≤ o') : Pp (set7 w b o' x) b o y := by
  unfold set7
  exact ((((((h.off (by omega)).off (by omega)).off (by omega)).off (by omega)).off (by omega)).off (by omega)).off (by omega)
def pc0 : Pc := ⟨false, (0, 0, 0), 0, 0, 0⟩
/-- What stands at a number. -/
def plc (X : List Tk) (l : Fo) (wh : Int → Int) (i : Int) : Pc := if i ∈ nums l then ⟨true, (tk X i).1, rg X i, par l i, wh i⟩ else pc0
theorem plc_in {X : List Tk} {l : Fo} {wh : Int → Int} {i : Int} (h : i ∈ nums l) : plc X l wh i = ⟨true, (tk X i).1, rg X i, par l i, wh i⟩ := by unfold plc; rw [if_pos h]
theorem plc_out {X : List Tk} {l : Fo} {wh : Int → Int} {i : Int} (h : i ∉ nums l) : plc X l wh i = pc0 := by unfold plc; rw [if_neg h]
/-- The document's catalogue in memory. -/
structure Rf (w : World) (r b mo : Nat) (X : List Tk) (l : Fo) (wh : Int → Int) (ev : Nat) : Prop where
  c0 : w.cell? ⟨r, 0, none⟩ = some (.slice (some ⟨b, 0, none⟩) mo mo)
  c1 : Lies w ⟨r, 1, none⟩ (.int .i64 (ev : Int))
  at_ : ∀ i : Nat, i < mo → Pp w b (i * 7) (plc X l wh (i : Int))
  fr : ∀ j, w.frozen? ⟨b, j, none⟩ = false
  ltb : b < w.heap.size
  ne : r ≠ b
  big : mo ≤ 256
theorem Rf.ltr {w : World} {r b mo : Nat} {X : List Tk} {l : Fo} {wh : Int → Int} {ev : Nat} (h : Rf w r b mo X l wh ev) : r < w.heap.size := World.block_lt_of_cell? _ _ h.c0
theorem Rf.but {S : Nat → Prop} {w w' : World} {r b mo : Nat} {X : List Tk} {l : Fo} {wh : Int → Int} {ev : Nat} (h : Rf w r b mo X l wh ev) (hb : But S w w') (h1 : ¬ S r) (h2 : ¬ S b) : Rf w' r b mo X l wh ev :=
  ⟨cell_but hb h.c0 h1, h.c1.but hb h1, fun i hi => (h.at_ i hi).but hb h2, fun j => by rw [World.frozen?_of_block (w := w) (hb.block b h.ltb h2)]; exact h.fr j, Nat.lt_of_lt_of_le h.ltb hb.size, h.ne, h.big⟩
theorem Rf.later {w w' : World} {r b mo : Nat} {X : List Tk} {l : Fo} {wh : Int → Int} {ev : Nat} (h : Rf w r b mo X l wh ev) (hb : Below w.heap.size w w') : Rf w' r b mo X l wh ev := h.but (S := fun _ => False) (But.of hb) (fun h => h) (fun h => h)
/-- A place is written. -/
theorem Rf.set {w : World} {r b mo : Nat} {X X' : List Tk} {l l' : Fo} {wh wh' : Int → Int} {ev : Nat} (h : Rf w r b mo X l wh ev) {k : Nat} (hk : k < mo) {x : Pc} (hx : plc X' l' wh' (k : Int) = x) (ho : ∀ i : Nat, i < mo → i ≠ k → plc X' l' wh' (i : Int) = plc X l wh (i : Int)) : Rf (set7 w b (k * 7) x) r b mo X' l' wh' ev := by
  have hb : But (· = b) w (set7 w b (k * 7) x) := set7_but (S := (· = b)) (But.refl _ _) rfl _ _
  refine ⟨cell_but hb h.c0 h.ne, h.c1.but hb h.ne, fun i hi => ?_, fun j => by simpa [set7] using h.fr j, Nat.lt_of_lt_of_le h.ltb hb.size, h.ne, h.big⟩
  by_cases e : i = k
  · subst e
    rw [hx]
    exact (h.at_ i hi).set _
  · rw [ho i hi e]
    exact (h.at_ i hi).setOff _ (by omega)
theorem rvalid_any (r : Int) (w : World) :
    Calls Try.prog 42 #[.int .i64 r] w fun e w' => e = .returned (.bool (validB r)) ∧ w' = w := by
  by_cases h1 : 1 ≤ r
  · by_cases h2 : r ≤ 31
    · have hz : validB r = true := decide_eq_true (by omega)
      rw [hz]; clear hz
      go_enter Try.func42, Try.ntmps42
      go_wp2
      go_ret
      exact ⟨rfl, rfl⟩
    · have hz : validB r = false := decide_eq_false (by omega)
      rw [hz]; clear hz
      go_enter Try.func42, Try.ntmps42
      go_wp2
      go_ret
      exact ⟨rfl, rfl⟩
  · have hz : validB r = false := decide_eq_false (by omega)
    rw [hz]; clear hz
    go_enter Try.func42, Try.ntmps42
    go_wp2
    go_ret
    exact ⟨rfl, rfl⟩
theorem rpart_any (a b : Int) (hb : validB b = true) (w : World) :
    Calls Try.prog 47 #[.int .i64 a, .int .i64 b] w fun e w' => e = .returned (.bool (partB a b)) ∧ w' = w := by
  by_cases h1 : validB a = true
  · obtain ⟨n, rfl, _, hn⟩ := valid_nat h1
    obtain ⟨m, rfl, _, hm⟩ := valid_nat hb
    have hbo := i64_or_nat n m hn hm
    have HP : Hid (partB (n : Int) (m : Int) = decide (n ||| m = m)) := by unfold Hid partB; rw [h1, hb]; simp only [Bool.and_self, Bool.true_and, Int.toNat_natCast]; exact or_of_and n hn m hm
    go_enter Try.func47, Try.ntmps47
    go_wp2_with (first | (go_at_call 42; refine (rvalid_any _ _).mono ?_; rintro e w1 ⟨rfl, rfl⟩))
    go_ret
    refine ⟨?_, rfl⟩
    rw [HP.out]
    apply ret_bool
    exact beq_nat _ _
  · have h1 : validB a = false := by simpa using h1
    have hz : partB a b = false := by unfold partB; rw [h1]; simp
    rw [hz]; clear hz
    go_enter Try.func47, Try.ntmps47
    go_wp2_with (first | (go_at_call 42; refine (rvalid_any _ _).mono ?_; rintro e w1 ⟨rfl, rfl⟩))
    go_ret
    exact ⟨rfl, rfl⟩
set_option maxRecDepth 100000 in
set_option maxHeartbeats 1000000 in
theorem ris_any {w : World} {r b mo : Nat} {X : List Tk} {l : Fo} {wh : Int → Int} {ev : Nat} (h : Rf w r b mo X l wh ev) (hr : ∀ x ∈ nums l, 0 ≤ x ∧ x < (mo : Int)) (n : Int) :
    Calls Try.prog 46 #[.pointer (some ⟨r, 0, none⟩), .int .i64 n] w fun e w' => e = .returned (.bool (decide (n ∈ nums l))) ∧ w' = w := by
  have x0 := h.c0
  have hbig := h.big
  by_cases hn : 0 ≤ n ∧ n < (mo : Int)
  · obtain ⟨k, rfl⟩ : ∃ k : Nat, n = (k : Int) := ⟨n.toNat, by omega⟩
    have hP := h.at_ k (by omega)
    have p0 : w.cell? ⟨b, k * 7, none⟩ = some (.bool (decide ((k : Int) ∈ nums l))) := by
      rw [hP.c0]
      by_cases hk : (k : Int) ∈ nums l
      · rw [plc_in hk, decide_eq_true hk]
      · rw [plc_out hk, decide_eq_false hk]; rfl
    generalize decide ((k : Int) ∈ nums l) = d at *
    clear h hP hr
    go_enter Try.func46, Try.ntmps46
    go_wp2
    go_ret
    exact ⟨rfl, rfl⟩
  · have hf : decide (n ∈ nums l) = false := decide_eq_false (fun hm => hn (hr n hm))
    rw [hf]
    clear h hr
    by_cases h0 : 0 ≤ n
    · have h1 : ¬ n < (mo : Int) := by omega
      go_enter Try.func46, Try.ntmps46
      go_wp2
      go_ret
      exact ⟨rfl, rfl⟩
    · go_enter Try.func46, Try.ntmps46
      go_wp2
      go_ret
      exact ⟨rfl, rfl⟩
end Go.Proofs.Ytciidjhadijhdaa
