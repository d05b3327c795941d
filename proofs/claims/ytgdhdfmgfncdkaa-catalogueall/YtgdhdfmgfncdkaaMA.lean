import Derived.Test.YtgdhdfmgfncdkaaVH
import Derived.BigRegion
namespace Go.Proofs.Ytgdhdfmgfncdkaa
open Go.RowKit Go.Shelf H
set_option linter.unusedVariables false

/-! ### The document's catalogue -/
/-- A place: a token, if live; when it was put in. -/
structure Pc where
  lv : Bool
  c : Cp
  r : Int
  p : Int
  wh : Int
structure Pp (w : World) (b o : Nat) (x : Pc) : Prop where
  c0 : w.cell? ⟨b, o, none⟩ = some (.bool x.lv)
  c1 : w.cell? ⟨b, o + 1, none⟩ = some (.int .i64 x.c.1)
  c2 : w.cell? ⟨b, o + 2, none⟩ = some (.int .u64 (x.c.2.1 : Int))
  c3 : w.cell? ⟨b, o + 3, none⟩ = some (.int .u64 (x.c.2.2 : Int))
  c4 : w.cell? ⟨b, o + 4, none⟩ = some (.int .i64 x.r)
  c5 : w.cell? ⟨b, o + 5, none⟩ = some (.int .i64 x.p)
  c6 : w.cell? ⟨b, o + 6, none⟩ = some (.int .i64 x.wh)
theorem Pp.but {S : Nat → Prop} {w w' : World} {b o : Nat} {x : Pc} (hb : But S w w') (h : Pp w b o x) (hn : ¬ S b) : Pp w' b o x :=
  ⟨cell_but hb h.c0 hn, cell_but hb h.c1 hn, cell_but hb h.c2 hn, cell_but hb h.c3 hn, cell_but hb h.c4 hn, cell_but hb h.c5 hn, cell_but hb h.c6 hn⟩
theorem Pp.off {w : World} {b o o' : Nat} {x : Pc} {u : Value} (h : Pp w b o x) (hne : o' < o ∨ o + 7 ≤ o') : Pp (w.setCell ⟨b, o', none⟩ u) b o x :=
  ⟨cell_ne h.c0 (by omega), cell_ne h.c1 (by omega), cell_ne h.c2 (by omega), cell_ne h.c3 (by omega), cell_ne h.c4 (by omega), cell_ne h.c5 (by omega), cell_ne h.c6 (by omega)⟩
def set7 (w : World) (b o : Nat) (x : Pc) : World :=
  ((((((w.setCell ⟨b, o, none⟩ (.bool x.lv)).setCell ⟨b, o + 1, none⟩ (.int .i64 x.c.1)).setCell ⟨b, o + 2, none⟩ (.int .u64 (x.c.2.1 : Int))).setCell ⟨b, o + 3, none⟩ (.int .u64 (x.c.2.2 : Int))).setCell ⟨b, o + 4, none⟩ (.int .i64 x.r)).setCell ⟨b, o + 5, none⟩ (.int .i64 x.p)).setCell ⟨b, o + 6, none⟩ (.int .i64 x.wh)
theorem set7_but {S : Nat → Prop} {a w : World} (h : But S a w) {b : Nat} (hb : S b) (o : Nat) (x : Pc) : But S a (set7 w b o x) :=
  ((((((h.setCell (p := ⟨b, o, none⟩) hb _).setCell (p := ⟨b, o + 1, none⟩) hb _).setCell (p := ⟨b, o + 2, none⟩) hb _).setCell (p := ⟨b, o + 3, none⟩) hb _).setCell (p := ⟨b, o + 4, none⟩) hb _).setCell (p := ⟨b, o + 5, none⟩) hb _).setCell (p := ⟨b, o + 6, none⟩) hb _
theorem Pp.set {w : World} {b o : Nat} {y : Pc} (h : Pp w b o y) (x : Pc) : Pp (set7 w b o x) b o x := by
  unfold set7
  refine ⟨?_, ?_, ?_, ?_, ?_, ?_, ?_⟩
  · exact cell_ne (cell_ne (cell_ne (cell_ne (cell_ne (cell_ne (World.cell?_setCell_same _ _ _ h.c0) (by omega)) (by omega)) (by omega)) (by omega)) (by omega)) (by omega)
  · exact cell_ne (cell_ne (cell_ne (cell_ne (cell_ne (World.cell?_setCell_same _ _ _ (cell_ne h.c1 (by omega))) (by omega)) (by omega)) (by omega)) (by omega)) (by omega)
  · exact cell_ne (cell_ne (cell_ne (cell_ne (World.cell?_setCell_same _ _ _ (cell_ne (cell_ne h.c2 (by omega)) (by omega))) (by omega)) (by omega)) (by omega)) (by omega)
  · exact cell_ne (cell_ne (cell_ne (World.cell?_setCell_same _ _ _ (cell_ne (cell_ne (cell_ne h.c3 (by omega)) (by omega)) (by omega))) (by omega)) (by omega)) (by omega)
  · exact cell_ne (cell_ne (World.cell?_setCell_same _ _ _ (cell_ne (cell_ne (cell_ne (cell_ne h.c4 (by omega)) (by omega)) (by omega)) (by omega))) (by omega)) (by omega)
  · exact cell_ne (World.cell?_setCell_same _ _ _ (cell_ne (cell_ne (cell_ne (cell_ne (cell_ne h.c5 (by omega)) (by omega)) (by omega)) (by omega)) (by omega))) (by omega)
  · exact World.cell?_setCell_same _ _ _ (cell_ne (cell_ne (cell_ne (cell_ne (cell_ne (cell_ne h.c6 (by omega)) (by omega)) (by omega)) (by omega)) (by omega)) (by omega))
theorem Pp.setOff {w : World} {b o o' : Nat} {y : Pc} (h : Pp w b o y) (x : Pc) (hne : o' + 7 ≤ o ∨ o + 7 ≤ o') : Pp (set7 w b o' x) b o y := by
  unfold set7
  exact ((((((h.off (by omega)).off (by omega)).off (by omega)).off (by omega)).off (by omega)).off (by omega)).off (by omega)
def pc0 : Pc := ⟨false, (0, 0, 0), 0, 0, 0⟩
/-- What stands at a number. -/
def plc (X : List Tk) (l : Fo) (wh : Int → Int) (i : Int) : Pc := if i ∈ nums l then ⟨true, (tk X i).1, rg X i, par l i, wh i⟩ else pc0
theorem plc_in {X : List Tk} {l : Fo} {wh : Int → Int} {i : Int} (h : i ∈ nums l) : plc X l wh i = ⟨true, (tk X i).1, rg X i, par l i, wh i⟩ := by unfold plc; rw [if_pos h]
theorem plc_out {X : List Tk} {l : Fo} {wh : Int → Int} {i : Int} (h : i ∉ nums l) : plc X l wh i = pc0 := by unfold plc; rw [if_neg h]
/-- The document's catalogue in memory. -/
structure Rf (w : World) (r b mo : Nat) (X : List Tk) (l : Fo) (wh : Int → Int) (ev : Nat) : Prop where
  c0 : w.cell? ⟨r, 0, none⟩ = some (.slice (some ⟨b, 0, none⟩) mo mo)
  c1 : Lies w ⟨r, 1, none⟩ (.int .i64 (ev : Int))
  at_ : ∀ i : Nat, i < mo → Pp w b (i * 7) (plc X l wh (i : Int))
  fr : ∀ j, w.frozen? ⟨b, j, none⟩ = false
  ltb : b < w.heap.size
  ne : r ≠ b
  big : mo ≤ 256
theorem Rf.ltr {w : World} {r b mo : Nat} {X : List Tk} {l : Fo} {wh : Int → Int} {ev : Nat} (h : Rf w r b mo X l wh ev) : r < w.heap.size := World.block_lt_of_cell? _ _ h.c0
theorem Rf.but {S : Nat → Prop} {w w' : World} {r b mo : Nat} {X : List Tk} {l : Fo} {wh : Int → Int} {ev : Nat} (h : Rf w r b mo X l wh ev) (hb : But S w w') (h1 : ¬ S r) (h2 : ¬ S b) : Rf w' r b mo X l wh ev :=
  ⟨cell_but hb h.c0 h1, h.c1.but hb h1, fun i hi => (h.at_ i hi).but hb h2, fun j => by rw [World.frozen?_of_block (w := w) (hb.block b h.ltb h2)]; exact h.fr j, Nat.lt_of_lt_of_le h.ltb hb.size, h.ne, h.big⟩
theorem Rf.later {w w' : World} {r b mo : Nat} {X : List Tk} {l : Fo} {wh : Int → Int} {ev : Nat} (h : Rf w r b mo X l wh ev) (hb : Below w.heap.size w w') : Rf w' r b mo X l wh ev := h.but (S := fun _ => False) (But.of hb) (fun h => h) (fun h => h)
/-- A place is written. -/
theorem Rf.set {w : World} {r b mo : Nat} {X X' : List Tk} {l l' : Fo} {wh wh' : Int → Int} {ev : Nat} (h : Rf w r b mo X l wh ev) {k : Nat} (hk : k < mo) {x : Pc} (hx : plc X' l' wh' (k : Int) = x) (ho : ∀ i : Nat, i < mo → i ≠ k → plc X' l' wh' (i : Int) = plc X l wh (i : Int)) : Rf (set7 w b (k * 7) x) r b mo X' l' wh' ev := by
  have hb : But (· = b) w (set7 w b (k * 7) x) := set7_but (S := (· = b)) (But.refl _ _) rfl _ _
  refine ⟨cell_but hb h.c0 h.ne, h.c1.but hb h.ne, fun i hi => ?_, fun j => by simpa [set7] using h.fr j, Nat.lt_of_lt_of_le h.ltb hb.size, h.ne, h.big⟩
  by_cases e : i = k
  · subst e
    rw [hx]
    exact (h.at_ i hi).set _
  · rw [ho i hi e]
    exact (h.at_ i hi).setOff _ (by omega)
theorem rvalid_any (r : Int) (w : World) :
    Calls Try.prog 56 #[.int .i64 r] w fun e w' => e = .returned (.bool (validB r)) ∧ w' = w := by
  by_cases h1 : 1 ≤ r
  · by_cases h2 : r ≤ 31
    · have hz : validB r = true := decide_eq_true (by omega)
      rw [hz]; clear hz
      go_enter Try.func56, Try.ntmps56
      go_wp2
      go_ret
      exact ⟨rfl, rfl⟩
    · have hz : validB r = false := decide_eq_false (by omega)
      rw [hz]; clear hz
      go_enter Try.func56, Try.ntmps56
      go_wp2
      go_ret
      exact ⟨rfl, rfl⟩
  · have hz : validB r = false := decide_eq_false (by omega)
    rw [hz]; clear hz
    go_enter Try.func56, Try.ntmps56
    go_wp2
    go_ret
    exact ⟨rfl, rfl⟩
theorem rpart_any (a b : Int) (hb : validB b = true) (w : World) :
    Calls Try.prog 59 #[.int .i64 a, .int .i64 b] w fun e w' => e = .returned (.bool (partB a b)) ∧ w' = w := by
  by_cases h1 : validB a = true
  · obtain ⟨n, rfl, _, hn⟩ := valid_nat h1
    obtain ⟨m, rfl, _, hm⟩ := valid_nat hb
    have hbo := i64_or_nat n m hn hm
    have HP : Hid (partB (n : Int) (m : Int) = decide (n ||| m = m)) := by unfold Hid partB; rw [h1, hb]; simp only [Bool.and_self, Bool.true_and, Int.toNat_natCast]; exact or_of_and n hn m hm
    go_enter Try.func59, Try.ntmps59
    go_wp2_with (first | (go_at_call 56; refine (rvalid_any _ _).mono ?_; rintro e w1 ⟨rfl, rfl⟩))
    go_ret
    refine ⟨?_, rfl⟩
    rw [HP.out]
    apply ret_bool
    exact beq_nat _ _
  · have h1 : validB a = false := by simpa using h1
    have hz : partB a b = false := by unfold partB; rw [h1]; simp
    rw [hz]; clear hz
    go_enter Try.func59, Try.ntmps59
    go_wp2_with (first | (go_at_call 56; refine (rvalid_any _ _).mono ?_; rintro e w1 ⟨rfl, rfl⟩))
    go_ret
    exact ⟨rfl, rfl⟩
set_option maxRecDepth 100000 in
set_option maxHeartbeats 1000000 in
theorem ris_any {w : World} {r b mo : Nat} {X : List Tk} {l : Fo} {wh : Int → Int} {ev : Nat} (h : Rf w r b mo X l wh ev) (hr : ∀ x ∈ nums l, 0 ≤ x ∧ x < (mo : Int)) (n : Int) :
    Calls Try.prog 58 #[.pointer (some ⟨r, 0, none⟩), .int .i64 n] w fun e w' => e = .returned (.bool (decide (n ∈ nums l))) ∧ w' = w := by
  have x0 := h.c0
  have hbig := h.big
  by_cases hn : 0 ≤ n ∧ n < (mo : Int)
  · obtain ⟨k, rfl⟩ : ∃ k : Nat, n = (k : Int) := ⟨n.toNat, by omega⟩
    have hP := h.at_ k (by omega)
    have p0 : w.cell? ⟨b, k * 7, none⟩ = some (.bool (decide ((k : Int) ∈ nums l))) := by
      rw [hP.c0]
      by_cases hk : (k : Int) ∈ nums l
      · rw [plc_in hk, decide_eq_true hk]
      · rw [plc_out hk, decide_eq_false hk]; rfl
    generalize decide ((k : Int) ∈ nums l) = d at *
    clear h hP hr
    go_enter Try.func58, Try.ntmps58
    go_wp2
    go_ret
    exact ⟨rfl, rfl⟩
  · have hf : decide (n ∈ nums l) = false := decide_eq_false (fun hm => hn (hr n hm))
    rw [hf]
    clear h hr
    by_cases h0 : 0 ≤ n
    · have h1 : ¬ n < (mo : Int) := by omega
      go_enter Try.func58, Try.ntmps58
      go_wp2
      go_ret
      exact ⟨rfl, rfl⟩
    · go_enter Try.func58, Try.ntmps58
      go_wp2
      go_ret
      exact ⟨rfl, rfl⟩
open Go.RowKit Go.Shelf H
set_option linter.unusedVariables false

/-! ### New, Find, In, Count -/
theorem info116 : (Try.prog.info? 116).map (fun i => (i.zero, i.size, i.bytes)) = some (some (.agg #[.bool false, .int .i64 0, .int .u64 0, .int .u64 0, .int .i64 0, .int .i64 0, .int .i64 0]), 7, 56) := by kernel_rfl
theorem make_places (w : World) (n : Nat) (hn : n ≤ 1024) :
    ∃ w', (Instr.makeSlice 93 (.int .i64 (n : Int)) (.int .i64 (n : Int))).run Try.prog w = .ok (.slice (some ⟨w.heap.size, 0, none⟩) n n) w' ∧ (∀ i : Nat, i < n → Pp w' w.heap.size (i * 7) pc0) ∧ (∀ j, w'.frozen? ⟨w.heap.size, j, none⟩ = false) ∧ w.heap.size < w'.heap.size ∧ Below w.heap.size w w' := by
  obtain ⟨i, hi, hz0, hz1, hz2⟩ := info_parts info116
  obtain ⟨w', hr, ho, hg⟩ := run_make_full (P := Try.prog) w w.heap.size 93 116 i _ 7 Try.underlying93 hi hz0 hz1 .i64 .i64 n (by rw [hz2]; omega) (by unfold maxLen; omega) (Nat.le_refl _)
  have hcell : ∀ j c u, j < n → c < 7 → (#[.bool false, .int .i64 0, .int .u64 0, .int .u64 0, .int .i64 0, .int .i64 0, .int .i64 0] : Array Value)[c]! = u → w'.cell? ⟨w.heap.size, j * 7 + c, none⟩ = some u := by
    intro j c u hj hc hu
    have hm : (j * 7 + c) % 7 = c := by omega
    have := ho.cells (g := w.heap.size) rfl (j * 7 + c) u (by
      rw [Array.getElem?_toList]
      simp only [madeCells, Value.cells, Array.getElem?_map, Array.getElem?_range]
      rw [if_pos (by omega)]
      simp only [Option.map_some, Option.some.injEq, Array.size, List.length, hm]
      exact hu)
    rw [addr_add0] at this
    exact this
  refine ⟨w', hr, fun j hj => ⟨hcell j 0 _ hj (by omega) rfl, hcell j 1 _ hj (by omega) rfl, hcell j 2 _ hj (by omega) rfl, hcell j 3 _ hj (by omega) rfl, hcell j 4 _ hj (by omega) rfl, hcell j 5 _ hj (by omega) rfl, hcell j 6 _ hj (by omega) rfl⟩, fun j => ?_, (own_block ho _ rfl).2, (Below.refl _ _).grown hg (Nat.le_refl _) (fun k hk => by cases hk)⟩
  rcases ho.2 with ⟨h0, _⟩ | ⟨g, c, cur, hv, _, hh, hc, _⟩
  · simp at h0
  · simp only [Value.slice.injEq, Option.some.injEq, Addr.mk.injEq] at hv
    obtain ⟨⟨rfl, _⟩, _, rfl⟩ := hv
    simp [World.frozen?, hh]
def RNew (w : World) (mo : Nat) (e : Ending) (w' : World) : Prop :=
  ∃ r b : Nat, e = .returned (.tuple #[.pointer (some ⟨r, 0, none⟩), .int .i64 0]) ∧ Rf w' r b mo (List.replicate mo tz) [] (fun _ => 0) 0 ∧ w.heap.size ≤ r ∧ w.heap.size ≤ b ∧ Below w.heap.size w w'
set_option maxRecDepth 100000 in
set_option maxHeartbeats 1000000 in
theorem rnew_ok (w : World) (mo kn : Nat) (h1 : 1 ≤ mo) (h2 : mo ≤ 256) (h3 : kn ≤ 64) : Calls Try.prog 20 #[.int .i64 (mo : Int), .int .i64 (kn : Int)] w (RNew w mo) := by
  have hk1 : ¬ (mo : Int) < 1 := by omega
  have hk2 : ¬ (256 : Int) < (mo : Int) := by omega
  have hk3 : ¬ (kn : Int) < 0 := by omega
  have hk4 : ¬ (64 : Int) < (kn : Int) := by omega
  obtain ⟨w2, hr, hA, hF, hsz, hb⟩ := make_places w mo (by omega)
  have HA := hid hA
  have HFr := hid hF
  have HB := hid hb
  clear hA hF hb
  go_enter Try.func20, Try.ntmps20
  go_wp2
  have hb4 : Below w2.heap.size w2 (w2.alloc (Obj.cells #[.slice (some ⟨w.heap.size, 0, none⟩) mo mo, .int .i64 0] 95)) := below1 _ _
  refine bodyPost_ret (v := .tuple #[.pointer (some ⟨w2.heap.size, 0, none⟩), .int .i64 0]) (by simp [results, Try.results20, go_sem]) rfl ⟨w2.heap.size, w.heap.size, rfl, ⟨by simp [go_sem], ⟨by simp [go_sem], by simp [go_sem]⟩, fun i hi => ?_, fun j => ?_, Nat.lt_of_lt_of_le hsz hb4.size, by omega, h2⟩, HB.out.size, Nat.le_refl _, below_call HB.out hb4⟩
  · rw [plc_out (by intro h; cases h)]
    exact (HA.out i hi).but (S := fun _ => False) (But.of hb4) (fun h => h)
  · rw [World.frozen?_of_block (w := w2) (hb4.block w.heap.size hsz)]
    exact HFr.out j
set_option maxRecDepth 100000 in
set_option maxHeartbeats 1000000 in
theorem rnew_bad (w : World) (mo kn : Int) (hb : mo < 1 ∨ 256 < mo ∨ kn < 0 ∨ 64 < kn) : Calls Try.prog 20 #[.int .i64 mo, .int .i64 kn] w fun e w' => e = .returned (.tuple #[.pointer none, .int .i64 16]) ∧ w' = w := by
  by_cases h1 : mo < 1
  · clear hb
    go_enter Try.func20, Try.ntmps20
    go_wp2
    exact bodyPost_ret (v := .tuple #[.pointer none, .int .i64 16]) (by simp [results, Try.results20, go_sem]) rfl ⟨rfl, rfl⟩
  by_cases h2 : 256 < mo
  · clear hb
    go_enter Try.func20, Try.ntmps20
    go_wp2
    exact bodyPost_ret (v := .tuple #[.pointer none, .int .i64 16]) (by simp [results, Try.results20, go_sem]) rfl ⟨rfl, rfl⟩
  by_cases h3 : kn < 0
  · clear hb
    go_enter Try.func20, Try.ntmps20
    go_wp2
    exact bodyPost_ret (v := .tuple #[.pointer none, .int .i64 16]) (by simp [results, Try.results20, go_sem]) rfl ⟨rfl, rfl⟩
  · have h4 : 64 < kn := by omega
    clear hb
    go_enter Try.func20, Try.ntmps20
    go_wp2
    exact bodyPost_ret (v := .tuple #[.pointer none, .int .i64 16]) (by simp [results, Try.results20, go_sem]) rfl ⟨rfl, rfl⟩
def RFindRel (w1 : World) (X : List Tk) (l : Fo) (c : Cp) (mo : Nat) (t : Value) (w' : World) : Prop :=
  ∃ i : Nat, i ≤ mo ∧ t = .int .i64 (i : Int) ∧ Hid (∀ j : Nat, j < i → (j : Int) ∈ nums l → (tk X (j : Int)).1 ≠ c) ∧ Below w1.heap.size w1 w'
set_option maxRecDepth 100000 in
set_option maxHeartbeats 2000000 in
theorem rfind_any {w : World} {r b mo : Nat} {X : List Tk} {l : Fo} {wh : Int → Int} {ev : Nat} (h : Rf w r b mo X l wh ev) (hv : Inv mo X l) (o : Int) (hi lo : Nat) :
    Calls Try.prog 38 #[.pointer (some ⟨r, 0, none⟩), .agg #[.int .i64 o, .int .u64 (hi : Int), .int .u64 (lo : Int)]] w fun e w' => e = .returned (.tuple #[.int .i64 (findN X l (o, hi, lo)), .bool (hasC X l (o, hi, lo))]) ∧ Below w.heap.size w w' := by
  obtain ⟨w1, hw1⟩ : ∃ w1, w1 = w.alloc (Obj.cells #[.int .i64 o, .int .u64 (hi : Int), .int .u64 (lo : Int)] 33) := ⟨_, rfl⟩
  have hB1 : Below w.heap.size w w1 := by rw [hw1]; exact below1 _ _
  have z0 : w1.cell? ⟨w.heap.size, 0, none⟩ = some (.int .i64 o) := by rw [hw1]; simp [go_sem]
  have z1 : w1.cell? ⟨w.heap.size, 1, none⟩ = some (.int .u64 (hi : Int)) := by rw [hw1]; simp [go_sem]
  have z2 : w1.cell? ⟨w.heap.size, 2, none⟩ = some (.int .u64 (lo : Int)) := by rw [hw1]; simp [go_sem]
  have H1 := hid (h.later hB1)
  have HV := hid hv
  have HB1 := hid hB1
  have hbig := h.big
  have HZ : Hid (∀ W, Below w1.heap.size w1 W → W.cell? ⟨w.heap.size, 0, none⟩ = some (.int .i64 o) ∧ W.cell? ⟨w.heap.size, 1, none⟩ = some (.int .u64 (hi : Int)) ∧ W.cell? ⟨w.heap.size, 2, none⟩ = some (.int .u64 (lo : Int))) := fun W hW => ⟨cell_later hW z0, cell_later hW z1, cell_later hW z2⟩
  clear h hB1 hv z0 z1 z2
  go_enter Try.func38, Try.ntmps38
  go_upto_region 1 with fail
  rw [← hw1]
  clear hw1
  go_upto_region 2 with fail
  go_loopw [6] (RFindRel w1 X l (o, hi, lo) mo) (fun t _ => mo - (intOf t).toNat)
  case atStart => exact ⟨0, Nat.zero_le _, rfl, fun j hj => by omega, Below.refl _ _⟩
  case round =>
    obtain ⟨i, hi_, rfl, hx, hB⟩ := hrel
    have hR := H1.out.later hB
    have x0 := hR.c0
    by_cases hlt : i < mo
    · obtain ⟨p0, p1, p2, p3, p4, p5, p6⟩ := hR.at_ i hlt
      obtain ⟨z0, z1, z2⟩ := HZ.out wr hB
      have HB := hid hB
      by_cases hin : (i : Int) ∈ nums l
      · rw [plc_in hin] at p0 p1 p2 p3
        simp only at p0 p1 p2 p3
        obtain ⟨⟨ot, ht_, lt_⟩, r0, hxx⟩ : ∃ c r, tk X (i : Int) = (c, r) := ⟨_, _, rfl⟩
        rw [hxx] at p1 p2 p3
        simp only at p1 p2 p3
        by_cases hc : (ot, ht_, lt_) = (o, hi, lo)
        · obtain ⟨rfl, rfl, rfl⟩ : ot = o ∧ ht_ = hi ∧ lt_ = lo := by simpa using hc
          have HR1 : Hid (findN X l (ot, ht_, lt_) = (i : Int) ∧ hasC X l (ot, ht_, lt_) = true) := by
            have e1 := findN_in HV.out hin
            rw [hxx] at e1
            exact ⟨e1, hasC_iff.2 ⟨_, hin, by rw [hxx]⟩⟩
          have heq := fun W => eqlC ot (ht_ : Int) (lt_ : Int) ot (ht_ : Int) (lt_ : Int) W
          simp only [show cEq ot (ht_ : Int) (lt_ : Int) ot (ht_ : Int) (lt_ : Int) = true by simp [cEq]] at heq
          clear hB hR hc hxx hin p4 p5 p6
          go_upto_region 4 with fail
          go_quiet (fail)
          go_wp2
          exact bodyPost_ret (v := .tuple #[.int .i64 (i : Int), .bool true]) (by simp [results, Try.results38, go_sem]) rfl ⟨by rw [HR1.out.1, HR1.out.2], below_drewN (below_call HB1.out HB.out) _⟩
        · have hq1 : cEq ot (ht_ : Int) (lt_ : Int) o (hi : Int) (lo : Int) = false := decide_eq_false fun hq => hc (Prod.ext hq.1 (Prod.ext (Int.ofNat.inj hq.2.1) (Int.ofNat.inj hq.2.2)))
          have heq := fun W => eqlC ot (ht_ : Int) (lt_ : Int) o (hi : Int) (lo : Int) W
          simp only [hq1] at heq
          have hx1 : Hid (∀ j : Nat, j < i + 1 → (j : Int) ∈ nums l → (tk X (j : Int)).1 ≠ (o, hi, lo)) := fun j hj hjl => by
            by_cases e : j = i
            · subst e; rw [hxx]; exact hc
            · exact hx.out j (by omega) hjl
          clear hB hR hc hxx hin p4 p5 p6 hq1
          go_upto_region 4 with fail
          go_quiet (fail)
          go_wp2
          exact ⟨⟨i + 1, by omega, by go_num, hx1, below_drewN HB.out _⟩, by simp [intOf]; omega⟩
      · rw [plc_out hin] at p0
        simp only [pc0] at p0
        have hx1 : Hid (∀ j : Nat, j < i + 1 → (j : Int) ∈ nums l → (tk X (j : Int)).1 ≠ (o, hi, lo)) := fun j hj hjl => by
          by_cases e : j = i
          · subst e; exact absurd hjl hin
          · exact hx.out j (by omega) hjl
        clear hB hR hin p1 p2 p3 p4 p5 p6
        go_upto_region 4 with fail
        go_quiet (fail)
        go_wp2
        exact ⟨⟨i + 1, by omega, by go_num, hx1, below_drewN HB.out _⟩, by simp [intOf]; omega⟩
    · obtain rfl : i = mo := by omega
      have HB := hid hB
      have hno : hasC X l (o, hi, lo) = false := by
        cases hc : hasC X l (o, hi, lo) with
        | false => rfl
        | true =>
          obtain ⟨n, hn, e⟩ := hasC_iff.1 hc
          have hrn := HV.out.ok.range n hn
          obtain ⟨k, rfl⟩ : ∃ k : Nat, n = (k : Int) := ⟨n.toNat, by omega⟩
          exact absurd e (hx.out k (by omega) hn)
      have HR1 : Hid (findN X l (o, hi, lo) = 0 ∧ hasC X l (o, hi, lo) = false) := ⟨findN_out hno, hno⟩
      clear hB hR hno
      go_wp2
      exact bodyPost_ret (v := .tuple #[.int .i64 0, .bool false]) (by simp [results, Try.results38, go_sem]) rfl ⟨by rw [HR1.out.1, HR1.out.2], below_call HB1.out HB.out⟩
set_option maxRecDepth 100000 in
set_option maxHeartbeats 2000000 in
theorem rcount_any {w : World} {r b mo : Nat} {X : List Tk} {l : Fo} {wh : Int → Int} {ev : Nat} (h : Rf w r b mo X l wh ev) (hok : Ok mo l) :
    Calls Try.prog 42 #[.pointer (some ⟨r, 0, none⟩)] w fun e w' => e = .returned (.int .i64 (l.length : Int)) ∧ w' = w := by
  have x0 := h.c0
  have HH := hid h
  have hbig := h.big
  have hcn := cntF_all hok.nodup hok.range
  rw [nums_len] at hcn
  have HC := hid hcn
  clear h hcn
  go_enter Try.func42, Try.ntmps42
  go_upto_region 3 with fail
  go_loopw [3, 4] (fun v t w' => ∃ i : Nat, i ≤ mo ∧ t = .int .i64 (i : Int) ∧ v = .int .i64 (cntF (fun x => decide (x ∈ nums l)) i : Int) ∧ w = w') (fun _ t _ => mo - (intOf t).toNat)
  case atStart => exact ⟨0, Nat.zero_le _, rfl, rfl, rfl⟩
  case round =>
    obtain ⟨i, hi_, rfl, rfl, rfl⟩ := hrel
    by_cases hlt : i < mo
    · have p0 := (HH.out.at_ i hlt).c0
      have hsu := cntF_succ (fun x => decide (x ∈ nums l)) i
      have hle := cntF_le (fun x => decide (x ∈ nums l)) i
      by_cases hin : (i : Int) ∈ nums l
      · rw [plc_in hin] at p0
        rw [if_pos (by simpa using hin)] at hsu
        have HSU := hid hsu
        simp only at p0
        clear hsu hin
        generalize hff : cntF (fun x => decide (x ∈ nums l)) i = ff at *
        clear hff
        go_wp2
        exact ⟨⟨i + 1, by omega, by go_num, by rw [HSU.out]; go_num, trivial⟩, by simp [intOf]; omega⟩
      · rw [plc_out hin] at p0
        rw [if_neg (by simpa using hin)] at hsu
        have HSU := hid hsu
        simp only [pc0] at p0
        clear hsu hin
        generalize hff : cntF (fun x => decide (x ∈ nums l)) i = ff at *
        clear hff
        go_wp2
        exact ⟨⟨i + 1, by omega, by go_num, by rw [HSU.out]; go_num, trivial⟩, by simp [intOf]; omega⟩
    · obtain rfl : i = mo := by omega
      rw [HC.out]
      go_wp2
      go_ret
      exact ⟨rfl, rfl⟩
set_option maxRecDepth 100000 in
set_option maxHeartbeats 2000000 in
theorem rin_any {w : World} {r b mo : Nat} {X : List Tk} {l : Fo} {wh : Int → Int} {ev : Nat} (h : Rf w r b mo X l wh ev) (hok : Ok mo l) (o : Int) :
    Calls Try.prog 43 #[.pointer (some ⟨r, 0, none⟩), .int .i64 o] w fun e w' => e = .returned (.int .i64 (inN X l o : Int)) ∧ w' = w := by
  have x0 := h.c0
  have HH := hid h
  have hbig := h.big
  have HC := hid (inF_all (X := X) hok o)
  clear h
  go_enter Try.func43, Try.ntmps43
  go_upto_region 3 with fail
  go_loopw [5, 6] (fun v t w' => ∃ i : Nat, i ≤ mo ∧ t = .int .i64 (i : Int) ∧ v = .int .i64 (inF X l o i : Int) ∧ w = w') (fun _ t _ => mo - (intOf t).toNat)
  case atStart => exact ⟨0, Nat.zero_le _, rfl, rfl, rfl⟩
  case round =>
    obtain ⟨i, hi_, rfl, rfl, rfl⟩ := hrel
    by_cases hlt : i < mo
    · obtain ⟨p0, p1, p2, p3, p4, p5, p6⟩ := HH.out.at_ i hlt
      have hsu := inF_succ X l o i
      have hle := inF_le X l o i
      by_cases hin : (i : Int) ∈ nums l
      · rw [plc_in hin] at p0 p1
        simp only at p0 p1
        change w.cell? _ = some (.int .i64 (ob X (i : Int))) at p1
        by_cases hq : ob X (i : Int) = o
        · rw [if_pos ⟨hin, hq⟩] at hsu
          have hb : (ob X (i : Int) == o) = true := by simp [hq]
          have HSU := hid hsu
          clear hsu hin hq p2 p3 p4 p5 p6
          generalize ob X (i : Int) = oo at *
          generalize hff : inF X l o i = ff at *
          clear hff
          go_wp2
          exact ⟨⟨i + 1, by omega, by go_num, by rw [HSU.out]; go_num, trivial⟩, by simp [intOf]; omega⟩
        · rw [if_neg (fun hc => hq hc.2)] at hsu
          have hb : (ob X (i : Int) == o) = false := by simp [hq]
          have HSU := hid hsu
          clear hsu hin hq p2 p3 p4 p5 p6
          generalize ob X (i : Int) = oo at *
          generalize hff : inF X l o i = ff at *
          clear hff
          go_wp2
          exact ⟨⟨i + 1, by omega, by go_num, by rw [HSU.out]; go_num, trivial⟩, by simp [intOf]; omega⟩
      · rw [plc_out hin] at p0
        rw [if_neg (fun hc => hin hc.1)] at hsu
        have HSU := hid hsu
        simp only [pc0] at p0
        clear hsu hin p1 p2 p3 p4 p5 p6
        generalize hff : inF X l o i = ff at *
        clear hff
        go_wp2
        exact ⟨⟨i + 1, by omega, by go_num, by rw [HSU.out]; go_num, trivial⟩, by simp [intOf]; omega⟩
    · obtain rfl : i = mo := by omega
      rw [HC.out]
      go_wp2
      go_ret
      exact ⟨rfl, rfl⟩
open Go.RowKit Go.Shelf H
set_option linter.unusedVariables false

/-! ### At -/
set_option maxRecDepth 100000 in
set_option maxHeartbeats 2000000 in
theorem rat_any {w : World} {r b mo : Nat} {X : List Tk} {l : Fo} {wh : Int → Int} {ev : Nat} (h : Rf w r b mo X l wh ev) (hrg : ∀ x ∈ nums l, 0 ≤ x ∧ x < (mo : Int)) (n : Int) :
    Calls Try.prog 39 #[.pointer (some ⟨r, 0, none⟩), .int .i64 n] w fun e w' => e = .returned (tokV X l n) ∧ Below w.heap.size w w' := by
  obtain ⟨w0, hw0⟩ : ∃ w0, w0 = w.alloc (Obj.cells #[.int .i64 0, .int .u64 0, .int .u64 0, .int .i64 0, .int .i64 0] 35) := ⟨_, rfl⟩
  have hB0 : Below w.heap.size w w0 := by rw [hw0]; exact below1 _ _
  have h0 := h.later hB0
  have hh := hid (ris_any h0 hrg n)
  obtain ⟨⟨r0, f0⟩, ⟨r1, f1⟩, ⟨r2, f2⟩, ⟨r3, f3⟩, ⟨r4, f4⟩⟩ : Lies w0 ⟨w.heap.size, 0, none⟩ (.int .i64 0) ∧ Lies w0 ⟨w.heap.size, 1, none⟩ (.int .u64 0) ∧ Lies w0 ⟨w.heap.size, 2, none⟩ (.int .u64 0) ∧ Lies w0 ⟨w.heap.size, 3, none⟩ (.int .i64 0) ∧ Lies w0 ⟨w.heap.size, 4, none⟩ (.int .i64 0) := by
    rw [hw0]; exact ⟨⟨by simp [go_sem], by simp [go_sem]⟩, ⟨by simp [go_sem], by simp [go_sem]⟩, ⟨by simp [go_sem], by simp [go_sem]⟩, ⟨by simp [go_sem], by simp [go_sem]⟩, ⟨by simp [go_sem], by simp [go_sem]⟩⟩
  have HB : Hid (∀ W, But (· = w.heap.size) w0 W → Below w.heap.size w W) := fun W hW => But.below hB0 hW (fun k e => by omega)
  unfold tokV
  by_cases hn : n ∈ nums l
  · rw [if_pos hn]
    rw [decide_eq_true hn] at hh
    have hrn := hrg n hn
    obtain ⟨k, rfl⟩ : ∃ k : Nat, n = (k : Int) := ⟨n.toNat, by omega⟩
    have hk : k < mo := by omega
    have hbig := h.big
    have hP := h0.at_ k hk
    rw [plc_in hn] at hP
    obtain ⟨p0, p1, p2, p3, p4, p5, p6⟩ := hP
    simp only at p0 p1 p2 p3 p4 p5 p6
    obtain ⟨⟨ot, ht_, lt_⟩, rr0, hxx⟩ : ∃ c r, tk X (k : Int) = (c, r) := ⟨_, _, rfl⟩
    rw [hxx] at p1 p2 p3 ⊢
    simp only at p1 p2 p3
    have x0 := h0.c0
    have hnb : b ≠ w.heap.size := by have := h.ltb; omega
    have hnr : r ≠ w.heap.size := by have := h.ltr; omega
    generalize rg X (k : Int) = rt at *
    generalize par l (k : Int) = pt at *
    have hC : Hid (∀ U : World, But (· = w.heap.size) w0 U → (U.cell? ⟨r, 0, none⟩ = some (.slice (some ⟨b, 0, none⟩) mo mo) ∧ U.cell? ⟨b, k * 7 + 1, none⟩ = some (.int .i64 ot) ∧ U.cell? ⟨b, k * 7 + 2, none⟩ = some (.int .u64 (ht_ : Int)) ∧ U.cell? ⟨b, k * 7 + 3, none⟩ = some (.int .u64 (lt_ : Int)) ∧ U.cell? ⟨b, k * 7 + 4, none⟩ = some (.int .i64 rt) ∧ U.cell? ⟨b, k * 7 + 5, none⟩ = some (.int .i64 pt)) ∧ But (· = w.heap.size) w0 U) := fun U hU =>
      ⟨⟨cell_but hU x0 hnr, cell_but hU p1 hnb, cell_but hU p2 hnb, cell_but hU p3 hnb, cell_but hU p4 hnb, cell_but hU p5 hnb⟩, hU⟩
    have HST := hid (set5_but (S := (· = w.heap.size)) (But.of (S := (· = w.heap.size)) (Below.refl w0.heap.size w0).drew) (b := w.heap.size) rfl (ot, ht_, lt_) rt pt)
    clear h h0 hB0 hn hxx hrg p0 p6 hrn
    go_enter Try.func39, Try.ntmps39
    go_upto_region 1 with fail
    rw [← hw0]
    clear hw0
    go_upto_region 3 with (first | (go_at_call 58; refine hh.out.mono ?_; rintro e w9 ⟨rfl, hw9⟩; obtain rfl := hw9.symm; clear hw9))
    go_region_held3 (fun U => (U.cell? ⟨r, 0, none⟩ = some (.slice (some ⟨b, 0, none⟩) mo mo) ∧ U.cell? ⟨b, k * 7 + 1, none⟩ = some (.int .i64 ot) ∧ U.cell? ⟨b, k * 7 + 2, none⟩ = some (.int .u64 (ht_ : Int)) ∧ U.cell? ⟨b, k * 7 + 3, none⟩ = some (.int .u64 (lt_ : Int)) ∧ U.cell? ⟨b, k * 7 + 4, none⟩ = some (.int .i64 rt) ∧ U.cell? ⟨b, k * 7 + 5, none⟩ = some (.int .i64 pt)) ∧ But (· = w.heap.size) w0 U) (first | exact hC.out _ HST.out | exact hC.out _ (But.of (Below.refl _ _).drew)) (fail)
    go_wp2
    exact bodyPost_ret (v := .tuple #[tokA (ot, ht_, lt_) rt pt, .bool true]) (by simp [results, Try.results39, go_sem, r0, r1, r2, r3, r4]) rfl ⟨rfl, HB.out _ HST.out⟩
  · rw [if_neg hn]
    rw [decide_eq_false hn] at hh
    clear h h0 hB0 hn hrg
    go_enter Try.func39, Try.ntmps39
    go_upto_region 1 with fail
    rw [← hw0]
    clear hw0
    go_wp2_with (first | (go_at_call 58; refine hh.out.mono ?_; rintro e w9 ⟨rfl, hw9⟩; obtain rfl := hw9.symm; clear hw9))
    exact bodyPost_ret (v := .tuple #[tokA (0, 0, 0) 0 0, .bool false]) (by simp [results, Try.results39, go_sem, r0, r1, r2, r3, r4]) rfl ⟨rfl, HB.out _ (set5_but (S := (· = w.heap.size)) (But.refl _ _) (b := w.heap.size) rfl (0, 0, 0) 0 0)⟩

open Go.RowKit Go.Shelf H
set_option linter.unusedVariables false

/-! ### put -/
/-- The times of putting in rise along the forest. -/
structure Tim (l : Fo) (wh : Int → Int) (ev : Nat) : Prop where
  ord : l.Pairwise (fun a b => wh a.1 < wh b.1)
  rng : ∀ x ∈ nums l, 0 ≤ wh x ∧ wh x < (ev : Int)
theorem Tim.add {l : Fo} {wh : Int → Int} {ev : Nat} (h : Tim l wh ev) {n p : Int} (hn : n ∉ nums l) : Tim (l ++ [(n, p)]) (fun x => if x = n then (ev : Int) else wh x) (ev + 1) := by
  have hne : ∀ x ∈ nums l, x ≠ n := fun x hx e => hn (e ▸ hx)
  refine ⟨?_, fun x hx => ?_⟩
  · rw [List.pairwise_append]
    refine ⟨h.ord.imp_of_mem (fun {a b} ha hb hab => ?_), by simp, fun a ha b hb => ?_⟩
    · rw [if_neg (hne _ (mem_nums.2 ⟨a.2, ha⟩)), if_neg (hne _ (mem_nums.2 ⟨b.2, hb⟩))]
      exact hab
    · rw [List.mem_singleton] at hb
      subst hb
      have ha' := mem_nums.2 ⟨a.2, ha⟩
      rw [if_neg (hne _ ha'), if_pos rfl]
      exact (h.rng _ ha').2
  · rw [nums_app, List.mem_append, List.mem_singleton] at hx
    rcases hx with hx | rfl
    · rw [if_neg (hne x hx)]
      have := h.rng x hx
      omega
    · rw [if_pos rfl]; omega
theorem Tim.cuts {l : Fo} {wh : Int → Int} {ev : Nat} (h : Tim l wh ev) (A : List Int) : Tim (cuts l A) wh ev := ⟨h.ord.sublist List.filter_sublist, fun x hx => h.rng x (nums_cuts.1 hx).1⟩
theorem plc_add {m : Nat} {X : List Tk} {l : Fo} {wh : Int → Int} {ev : Int} (h : Inv m X l) {k : Nat} {p : Int} {c : Cp} {r : Int} (hk : k < m) (hn : (k : Int) ∉ nums l) (hok : Ok m (l ++ [((k : Int), p)])) :
    plc (X.set k (c, r)) (l ++ [((k : Int), p)]) (fun x => if x = (k : Int) then ev else wh x) (k : Int) = ⟨true, c, r, p, ev⟩ ∧ ∀ i : Nat, i < m → i ≠ k → plc (X.set k (c, r)) (l ++ [((k : Int), p)]) (fun x => if x = (k : Int) then ev else wh x) (i : Int) = plc X l wh (i : Int) := by
  have hlen : k < X.length := by rw [h.len]; exact hk
  constructor
  · rw [plc_in (by rw [nums_app]; simp)]
    unfold rg
    rw [tk_set_same _ hlen, par_eq hok (p := p) (List.mem_append_right _ (List.mem_singleton.2 rfl)), if_pos rfl]
  · intro i hi hne
    have hne' : (i : Int) ≠ (k : Int) := by omega
    by_cases hin : (i : Int) ∈ nums l
    · rw [plc_in hin, plc_in (by rw [nums_app]; exact List.mem_append_left _ hin)]
      unfold rg
      obtain ⟨q, hq⟩ := mem_nums.1 hin
      rw [tk_set_other _ (by omega) hne', par_eq h.ok hq, par_eq hok (List.mem_append_left _ hq), if_neg hne']
    · rw [plc_out hin, plc_out (fun hm => by
        rw [nums_app, List.mem_append, List.mem_singleton] at hm
        rcases hm with hm | hm
        · exact hin hm
        · exact hne' hm)]
def RPutRel (w1 : World) (l : Fo) (mo : Nat) (t : Value) (w' : World) : Prop :=
  ∃ i : Nat, i ≤ mo ∧ t = .int .i64 (i : Int) ∧ Hid (∀ j : Nat, j < i → (j : Int) ∈ nums l) ∧ w1 = w'
/-- Behind the document's putting in. -/
def RDone (w : World) (r b mo : Nat) (R : Res) (wh : Int → Int) (ev : Nat) (e : Ending) (w' : World) : Prop :=
  e = .returned (.tuple #[.int .i64 R.num, .int .i64 R.code]) ∧ (∃ wh' ev', Rf w' r b mo R.X R.l wh' ev' ∧ Tim R.l wh' ev' ∧ ev' ≤ ev + 1) ∧ But (fun k => k = r ∨ k = b) w w'
set_option maxRecDepth 100000 in
set_option maxHeartbeats 4000000 in
theorem rput_any {w : World} {r b mo : Nat} {X : List Tk} {l : Fo} {wh : Int → Int} {ev : Nat} (h : Rf w r b mo X l wh ev) (hv : Inv mo X l) (ht : Tim l wh ev) (he : ev < 9223372036854775807) (o : Int) (hi lo : Nat) (rt p : Int) (hc : hasC X l (o, hi, lo) = false) (hw : hi < B64 ∧ lo < B64) (hp : p = -1 ∨ p ∈ nums l) :
    Calls Try.prog 57 #[.pointer (some ⟨r, 0, none⟩), .agg #[.int .i64 o, .int .u64 (hi : Int), .int .u64 (lo : Int)], .int .i64 rt, .int .i64 p] w (RDone w r b mo (addR mo X l p (o, hi, lo) rt) wh ev) := by
  obtain ⟨w1, hw1⟩ : ∃ w1, w1 = w.alloc (Obj.cells #[.int .i64 o, .int .u64 (hi : Int), .int .u64 (lo : Int)] 33) := ⟨_, rfl⟩
  have hB1 : Below w.heap.size w w1 := by rw [hw1]; exact below1 _ _
  have z0 : w1.cell? ⟨w.heap.size, 0, none⟩ = some (.int .i64 o) := by rw [hw1]; simp [go_sem]
  have z1 : w1.cell? ⟨w.heap.size, 1, none⟩ = some (.int .u64 (hi : Int)) := by rw [hw1]; simp [go_sem]
  have z2 : w1.cell? ⟨w.heap.size, 2, none⟩ = some (.int .u64 (lo : Int)) := by rw [hw1]; simp [go_sem]
  have h1 := h.later hB1
  have x0 := h1.c0
  have x1 := h1.c1.1
  have x1' := h1.c1.2
  have hbig := h.big
  have hne := h.ne
  have hsb : ¬ w.heap.size = b := by have := h.ltb; omega
  have H1 := hid h1
  have HV := hid hv
  have HT := hid ht
  have HB1 := hid hB1
  have hfr := h1.fr
  obtain ⟨R, hR⟩ : ∃ R, R = addR mo X l p (o, hi, lo) rt := ⟨_, rfl⟩
  rw [← hR]
  unfold addR at hR
  rw [if_neg (by rw [hc]; decide)] at hR
  have HRE := hid hR
  clear h hB1 hv ht h1 hR hc
  go_enter Try.func57, Try.ntmps57
  go_upto_region 1 with fail
  rw [← hw1]
  clear hw1
  go_upto_region 2 with fail
  go_loopw [10] (RPutRel w1 l mo) (fun t _ => mo - (intOf t).toNat)
  case atStart => exact ⟨0, Nat.zero_le _, rfl, fun j hj => by omega, rfl⟩
  case round =>
    obtain ⟨i, hi_, rfl, hx, rfl⟩ := hrel
    by_cases hlt : i < mo
    · obtain ⟨p0, p1, p2, p3, p4, p5, p6⟩ := H1.out.at_ i hlt
      by_cases hin : (i : Int) ∈ nums l
      · rw [plc_in hin] at p0
        simp only at p0
        have hx1 : Hid (∀ j : Nat, j < i + 1 → (j : Int) ∈ nums l) := fun j hj => by
          by_cases e : j = i
          · rw [e]; exact hin
          · exact hx.out j (by omega)
        clear p1 p2 p3 p4 p5 p6 hin
        go_wp2
        exact ⟨⟨i + 1, by omega, by go_num, hx1, rfl⟩, by simp [intOf]; omega⟩
      · have hlow : low l = i := low_eq hin hx.out
        have hll : l.length < mo := low_full HV.out.ok (by omega)
        have hok2 : Ok mo (l ++ [((i : Int), p)]) := HV.out.ok.add (by omega) (by omega) hin hp
        obtain ⟨q1, q2⟩ := plc_add (wh := wh) (ev := (ev : Int)) (c := (o, hi, lo)) (r := rt) HV.out hlt hin hok2
        have hset := H1.out.set hlt q1 q2
        have hRR := HRE.out
        rw [if_neg (by omega), hlow] at hRR
        subst hRR
        rw [plc_out hin] at p0 p1 p2 p3 p4 p5 p6
        simp only [pc0] at p0 p1 p2 p3 p4 p5 p6
        have hbs : But (· = b) w1 (set7 w1 b (i * 7) ⟨true, (o, hi, lo), rt, p, (ev : Int)⟩) := set7_but (S := (· = b)) (But.refl _ _) rfl _ _
        have hfin : ∀ W : World, W = ((set7 w1 b (i * 7) ⟨true, (o, hi, lo), rt, p, (ev : Int)⟩).drew.setCell ⟨r, 1, none⟩ (.int .i64 ((ev : Int) + 1))) → RDone w r b mo ⟨(i : Int), 0, X.set i ((o, hi, lo), rt), l ++ [((i : Int), p)]⟩ wh ev (.returned (.tuple #[.int .i64 (i : Int), .int .i64 0])) W := by
          rintro W rfl
          have hR2 := hset.later (Below.refl _ _).drew
          refine ⟨rfl, ⟨_, ev + 1, ⟨cell_ne hR2.c0 (by omega), ?_, fun j hj => ?_, fun j => ?_, by simpa using hR2.ltb, hR2.ne, hR2.big⟩, HT.out.add hin, Nat.le_refl _⟩, ?_⟩
          · have := hR2.c1.put (u := .int .i64 ((ev : Int) + 1))
            simpa using this
          · exact (hR2.at_ j hj).but ((But.refl (· = r) _).setCell (p := ⟨r, 1, none⟩) rfl _) (fun e => hR2.ne e.symm)
          · have := hR2.fr j
            simpa using this
          · exact (((But.of HB1.out).trans (hbs.mono (fun k e => .inr e))).call (Below.refl _ _).drew).setCell (p := ⟨r, 1, none⟩) (.inl rfl) _
        have HF := hid hfin
        have y1 := (hset.later (Below.refl _ _).drew).c1.1
        have y1' := (hset.later (Below.refl _ _).drew).c1.2
        obtain ⟨w7, hw7⟩ : ∃ w7, w7 = (set7 w1 b (i * 7) ⟨true, (o, hi, lo), rt, p, (ev : Int)⟩).drew := ⟨_, rfl⟩
        rw [← hw7] at y1 y1' HF
        clear hset hfin hbs q1 q2 hok2 hx hin hp
        go_upto_region 5 with fail
        go_region
        rw [show ((((((((w1.setCell ⟨b, i * 7, none⟩ (.bool true)).setCell ⟨b, i * 7 + 1, none⟩ (.int .i64 o)).setCell ⟨b, i * 7 + 2, none⟩ (.int .u64 (hi : Int))).setCell ⟨b, i * 7 + 3, none⟩ (.int .u64 (lo : Int))).setCell ⟨b, i * 7 + 4, none⟩ (.int .i64 rt)).setCell ⟨b, i * 7 + 5, none⟩ (.int .i64 p)).setCell ⟨b, i * 7 + 6, none⟩ (.int .i64 (ev : Int))).drew) = w7 from hw7.symm]
        clear hw7
        go_wp2
        exact bodyPost_ret (v := .tuple #[.int .i64 (i : Int), .int .i64 0]) (by simp [results, Try.results57, go_sem]) rfl (HF.out _ rfl)
    · obtain rfl : i = mo := by omega
      have hll : l.length = i := by
        have h1 := low_bound hx.out
        have h2 := HV.out.ok.len
        omega
      have hRR := HRE.out
      rw [if_pos hll] at hRR
      subst hRR
      have HF : Hid (RDone w r b i ⟨0, 10, X, l⟩ wh ev (.returned (.tuple #[.int .i64 0, .int .i64 10])) w1) := ⟨rfl, ⟨wh, ev, H1.out, HT.out, by omega⟩, But.of HB1.out⟩
      clear hll
      go_wp2
      exact bodyPost_ret (v := .tuple #[.int .i64 0, .int .i64 10]) (by simp [results, Try.results57, go_sem]) rfl HF.out
open Go.RowKit Go.Shelf H
set_option linter.unusedVariables false

theorem RDone.same {w w' : World} {r b mo : Nat} {X : List Tk} {l : Fo} {wh : Int → Int} {ev : Nat} {c : Int} (h : Rf w r b mo X l wh ev) (ht : Tim l wh ev) (hb : Below w.heap.size w w') : RDone w r b mo ⟨0, c, X, l⟩ wh ev (.returned (.tuple #[.int .i64 0, .int .i64 c])) w' :=
  ⟨rfl, ⟨wh, ev, h.later hb, ht, by omega⟩, But.of hb⟩
theorem RDone.pre {w W w' : World} {r b mo : Nat} {R : Res} {wh : Int → Int} {ev : Nat} {e : Ending} (hb : Below w.heap.size w W) (h : RDone W r b mo R wh ev e w') : RDone w r b mo R wh ev e w' := ⟨h.1, h.2.1, (But.of hb).trans h.2.2⟩
theorem inN_pos {X : List Tk} {l : Fo} {o : Int} : 0 < inN X l o ↔ hasO X l o = true := by
  unfold inN
  rw [hasO_iff, List.length_pos_iff_exists_mem]
  constructor
  · rintro ⟨n, hn⟩
    rw [List.mem_filter, decide_eq_true_eq] at hn
    exact ⟨n, hn.1, hn.2⟩
  · rintro ⟨n, h1, h2⟩
    exact ⟨n, List.mem_filter.2 ⟨h1, decide_eq_true h2⟩⟩
theorem inN_le {m : Nat} {X : List Tk} {l : Fo} (h : Ok m l) (o : Int) : inN X l o ≤ m := by
  unfold inN
  have := List.length_filter_le (fun n => decide (ob X n = o)) (nums l)
  rw [nums_len] at this
  exact Nat.le_trans this h.len
set_option maxRecDepth 100000 in
set_option maxHeartbeats 2000000 in
theorem rroot_any {w : World} {r b mo : Nat} {X : List Tk} {l : Fo} {wh : Int → Int} {ev : Nat} (h : Rf w r b mo X l wh ev) (hv : Inv mo X l) (ht : Tim l wh ev) (he : ev < 9223372036854775807) (c : Cp) (rt : Int) (hw : c.2.1 < B64 ∧ c.2.2 < B64) :
    Calls Try.prog 36 #[.pointer (some ⟨r, 0, none⟩), cpV c, .int .i64 rt] w (RDone w r b mo (rootR mo X l c rt) wh ev) := by
  obtain ⟨o, hi, lo⟩ := c
  obtain ⟨w1, hw1⟩ : ∃ w1, w1 = w.alloc (Obj.cells #[.int .i64 o, .int .u64 (hi : Int), .int .u64 (lo : Int)] 33) := ⟨_, rfl⟩
  have hB1 : Below w.heap.size w w1 := by rw [hw1]; exact below1 _ _
  have z0 : w1.cell? ⟨w.heap.size, 0, none⟩ = some (.int .i64 o) := by rw [hw1]; simp [go_sem]
  have z1 : w1.cell? ⟨w.heap.size, 1, none⟩ = some (.int .u64 (hi : Int)) := by rw [hw1]; simp [go_sem]
  have z2 : w1.cell? ⟨w.heap.size, 2, none⟩ = some (.int .u64 (lo : Int)) := by rw [hw1]; simp [go_sem]
  have HH := hid h
  have HT := hid ht
  have HB1 := hid hB1
  have hin := hid (rin_any (h.later hB1) hv.ok o)
  have hle := inN_le (X := X) hv.ok o
  have hbig := h.big
  obtain ⟨R, hR⟩ : ∃ R, R = rootR mo X l (o, hi, lo) rt := ⟨_, rfl⟩
  rw [← hR]
  unfold rootR at hR
  by_cases hvl : validB rt = true
  · rw [if_neg (by rw [hvl]; decide)] at hR
    by_cases ho : hasO X l o = true
    · rw [if_pos ho] at hR
      subst hR
      have hp : (0 : Int) < (inN X l o : Int) := by have := inN_pos.2 ho; omega
      clear h hv ht hB1 ho
      generalize inN X l o = ni at *
      go_enter Try.func36, Try.ntmps36
      go_upto_region 1 with fail
      rw [← hw1]
      clear hw1
      go_wp2_with (first | (go_at_call 43; refine hin.out.mono ?_; rintro e w9 ⟨rfl, hw9⟩; obtain rfl := hw9.symm; clear hw9) | (go_at_call 56; refine (rvalid_any _ _).mono ?_; rintro e w9 ⟨rfl, hw9⟩; obtain rfl := hw9.symm; clear hw9; rw [hvl]))
      exact bodyPost_ret (v := .tuple #[.int .i64 0, .int .i64 19]) (by simp [results, Try.results36, go_sem]) rfl (RDone.same HH.out HT.out HB1.out)
    · rw [if_neg ho] at hR
      have hc : hasC X l (o, hi, lo) = false := by
        cases hc : hasC X l (o, hi, lo) with
        | false => rfl
        | true => exact absurd (hasO_of_hasC hc) ho
      have hn0 : inN X l o = 0 := by
        rcases Nat.eq_zero_or_pos (inN X l o) with h0 | h0
        · exact h0
        · exact absurd (inN_pos.1 h0) ho
      rw [hn0] at hin
      have hpu := hid (rput_any (h.later hB1) hv ht he o hi lo rt (-1) hc hw (.inl rfl))
      subst hR
      generalize addR mo X l (-1) (o, hi, lo) rt = R at *
      clear h hv ht hB1 ho hc hn0 hle
      go_enter Try.func36, Try.ntmps36
      go_upto_region 1 with fail
      rw [← hw1]
      clear hw1
      go_wp2_with (first | (go_at_call 57; refine hpu.out.mono ?_; rintro e w3 hd; have hd1 := hd.1; subst hd1; have HD := hid hd; clear hd) | (go_at_call 43; refine hin.out.mono ?_; rintro e w9 ⟨rfl, hw9⟩; obtain rfl := hw9.symm; clear hw9) | (go_at_call 56; refine (rvalid_any _ _).mono ?_; rintro e w9 ⟨rfl, hw9⟩; obtain rfl := hw9.symm; clear hw9; rw [hvl]))
      exact bodyPost_ret (v := .tuple #[.int .i64 R.num, .int .i64 R.code]) (by simp [results, Try.results36, go_sem]) rfl (HD.out.pre HB1.out)
  · have hvl' : validB rt = false := by simpa using hvl
    rw [if_pos hvl'] at hR
    subst hR
    clear h hv ht hB1
    go_enter Try.func36, Try.ntmps36
    go_upto_region 1 with fail
    rw [← hw1]
    clear hw1
    go_wp2_with (first | (go_at_call 56; refine (rvalid_any _ _).mono ?_; rintro e w9 ⟨rfl, hw9⟩; obtain rfl := hw9.symm; clear hw9; rw [hvl']))
    exact bodyPost_ret (v := .tuple #[.int .i64 0, .int .i64 4]) (by simp [results, Try.results36, go_sem]) rfl (RDone.same HH.out HT.out HB1.out)
set_option maxRecDepth 100000 in
set_option maxHeartbeats 4000000 in
theorem rchild_any {w : World} {r b mo : Nat} {X : List Tk} {l : Fo} {wh : Int → Int} {ev : Nat} (h : Rf w r b mo X l wh ev) (hv : Inv mo X l) (ht : Tim l wh ev) (he : ev < 9223372036854775807) (p : Int) (c : Cp) (rt : Int) (hw : c.2.1 < B64 ∧ c.2.2 < B64) :
    Calls Try.prog 37 #[.pointer (some ⟨r, 0, none⟩), .int .i64 p, cpV c, .int .i64 rt] w (RDone w r b mo (childR mo X l p c rt) wh ev) := by
  obtain ⟨o, hi, lo⟩ := c
  obtain ⟨w1, hw1⟩ : ∃ w1, w1 = w.alloc (Obj.cells #[.int .i64 o, .int .u64 (hi : Int), .int .u64 (lo : Int)] 33) := ⟨_, rfl⟩
  have hB1 : Below w.heap.size w w1 := by rw [hw1]; exact below1 _ _
  have HZ : Hid (∀ W, Below w1.heap.size w1 W → W.cell? ⟨w.heap.size, 0, none⟩ = some (.int .i64 o) ∧ W.cell? ⟨w.heap.size, 1, none⟩ = some (.int .u64 (hi : Int)) ∧ W.cell? ⟨w.heap.size, 2, none⟩ = some (.int .u64 (lo : Int))) := fun W hW => ⟨cell_later hW (by rw [hw1]; simp [go_sem]), cell_later hW (by rw [hw1]; simp [go_sem]), cell_later hW (by rw [hw1]; simp [go_sem])⟩
  have HH := hid h
  have HT := hid ht
  have HB1 := hid hB1
  have H1 := hid (h.later hB1)
  have HV := hid hv
  have his := hid (ris_any (h.later hB1) hv.ok.range p)
  have hbig := h.big
  obtain ⟨R, hR⟩ : ∃ R, R = childR mo X l p (o, hi, lo) rt := ⟨_, rfl⟩
  rw [← hR]
  unfold childR at hR
  clear h hv ht hB1
  by_cases hp : p ∈ nums l
  · rw [if_neg (fun hn => hn hp)] at hR
    rw [decide_eq_true hp] at his
    have hrn := HV.out.ok.range p hp
    obtain ⟨k, rfl⟩ : ∃ k : Nat, p = (k : Int) := ⟨p.toNat, by omega⟩
    have hk : k < mo := by omega
    have hval := HV.out.val (k : Int) hp
    have hP := fun W (hW : Below w1.heap.size w1 W) => ((H1.out.later hW).at_ k hk)
    rw [plc_in hp] at hP
    have HP : Hid (∀ W, Below w1.heap.size w1 W → W.cell? ⟨r, 0, none⟩ = some (.slice (some ⟨b, 0, none⟩) mo mo) ∧ W.cell? ⟨b, k * 7 + 1, none⟩ = some (.int .i64 (ob X (k : Int))) ∧ W.cell? ⟨b, k * 7 + 4, none⟩ = some (.int .i64 (rg X (k : Int)))) := fun W hW => ⟨(H1.out.later hW).c0, (hP W hW).c1, (hP W hW).c4⟩
    have HPU := hid (fun (hc : hasC X l (o, hi, lo) = false) W (hW : Below w1.heap.size w1 W) => rput_any (H1.out.later hW) HV.out HT.out he o hi lo rt (k : Int) hc hw (.inr hp))
    have HFI := hid (fun W (hW : Below w1.heap.size w1 W) => rfind_any (H1.out.later hW) HV.out o hi lo)
    generalize ob X (k : Int) = oo at *
    generalize rg X (k : Int) = rr at *
    obtain ⟨y0, y1, y4⟩ := HP.out w1 (Below.refl _ _)
    obtain ⟨z0, z1, z2⟩ := HZ.out w1 (Below.refl _ _)
    clear hP hp hrn
    by_cases ho : oo = o
    · subst ho
      rw [if_neg (fun hn => hn rfl)] at hR
      by_cases hpt : partB rt rr = true
      · rw [if_neg (by rw [hpt]; decide)] at hR
        have hpa := hid (fun W => rpart_any rt rr hval W)
        rw [hpt] at hpa
        by_cases hc : hasC X l (oo, hi, lo) = true
        · unfold addR at hR
          rw [if_pos hc] at hR
          subst hR
          rw [hc] at HFI
          generalize findN X l (oo, hi, lo) = fn at *
          go_enter Try.func37, Try.ntmps37
          go_upto_region 1 with fail
          rw [← hw1]
          clear hw1
          go_upto_region 3 with (first | (go_at_call 58; refine his.out.mono ?_; rintro e w9 ⟨rfl, hw9⟩; obtain rfl := hw9.symm; clear hw9))
          go_quiet (fail)
          have HBq := hid (below_drewN (Below.refl w1.heap.size w1) nq)
          generalize hwq : w1.drewN nq = w2 at HBq ⊢
          obtain ⟨v0, v1, v4⟩ := HP.out w2 HBq.out
          obtain ⟨u0, u1_, u2_⟩ := HZ.out w2 HBq.out
          clear hwq y0 y1 y4 z0 z1 z2
          go_wp2_with (first | (go_at_call 38; refine (HFI.out _ HBq.out).mono ?_; rintro e w3 ⟨rfl, hb3⟩; have HB3 := hid (below_call HBq.out hb3); clear hb3) | (go_at_call 59; refine (hpa.out _).mono ?_; rintro e w9 ⟨rfl, hw9⟩; obtain rfl := hw9.symm; clear hw9))
          exact bodyPost_ret (v := .tuple #[.int .i64 0, .int .i64 19]) (by simp [results, Try.results37, go_sem]) rfl (RDone.same HH.out HT.out (below_call HB1.out HB3.out))
        · have hc' : hasC X l (oo, hi, lo) = false := by simpa using hc
          have hpu := hid (HPU.out hc')
          rw [hc'] at HFI
          generalize findN X l (oo, hi, lo) = fn at *
          subst hR
          generalize addR mo X l (k : Int) (oo, hi, lo) rt = R at *
          go_enter Try.func37, Try.ntmps37
          go_upto_region 1 with fail
          rw [← hw1]
          clear hw1
          go_upto_region 3 with (first | (go_at_call 58; refine his.out.mono ?_; rintro e w9 ⟨rfl, hw9⟩; obtain rfl := hw9.symm; clear hw9))
          go_quiet (fail)
          have HBq := hid (below_drewN (Below.refl w1.heap.size w1) nq)
          generalize hwq : w1.drewN nq = w2 at HBq ⊢
          obtain ⟨v0, v1, v4⟩ := HP.out w2 HBq.out
          obtain ⟨u0, u1_, u2_⟩ := HZ.out w2 HBq.out
          clear hwq y0 y1 y4 z0 z1 z2
          go_upto_region 8 with (first | (go_at_call 38; refine (HFI.out _ HBq.out).mono ?_; rintro e w3 ⟨rfl, hb3⟩; have HB3 := hid (below_call HBq.out hb3); clear hb3) | (go_at_call 59; refine (hpa.out _).mono ?_; rintro e w9 ⟨rfl, hw9⟩; obtain rfl := hw9.symm; clear hw9))
          clear u0 u1_ u2_ v0 v1 v4
          obtain ⟨u0, u1_, u2_⟩ := HZ.out w3 HB3.out
          have HPU3 := hid (hpu.out _ HB3.out)
          go_wp2_with (first | (go_at_call 57; refine HPU3.out.mono ?_; rintro e w4 hd; have hd1 := hd.1; subst hd1; have HD := hid hd; clear hd))
          exact bodyPost_ret (v := .tuple #[.int .i64 R.num, .int .i64 R.code]) (by simp [results, Try.results37, go_sem]) rfl (HD.out.pre (below_call HB1.out HB3.out))
      · have hpt' : partB rt rr = false := by simpa using hpt
        rw [if_pos hpt'] at hR
        subst hR
        have hpa := hid (fun W => rpart_any rt rr hval W)
        rw [hpt'] at hpa
        go_enter Try.func37, Try.ntmps37
        go_upto_region 1 with fail
        rw [← hw1]
        clear hw1
        go_upto_region 3 with (first | (go_at_call 58; refine his.out.mono ?_; rintro e w9 ⟨rfl, hw9⟩; obtain rfl := hw9.symm; clear hw9))
        go_quiet (fail)
        have HBq := hid (below_drewN (Below.refl w1.heap.size w1) nq)
        generalize hwq : w1.drewN nq = w2 at HBq ⊢
        obtain ⟨v0, v1, v4⟩ := HP.out w2 HBq.out
        clear hwq y0 y1 y4 z0 z1 z2
        go_wp2_with (first | (go_at_call 59; refine (hpa.out _).mono ?_; rintro e w9 ⟨rfl, hw9⟩; obtain rfl := hw9.symm; clear hw9))
        exact bodyPost_ret (v := .tuple #[.int .i64 0, .int .i64 4]) (by simp [results, Try.results37, go_sem]) rfl (RDone.same HH.out HT.out (below_call HB1.out HBq.out))
    · rw [if_pos ho] at hR
      subst hR
      have hbn : (oo == o) = false := by simp [ho]
      have hbn2 : (oo != o) = true := by simp [ho]
      go_enter Try.func37, Try.ntmps37
      go_upto_region 1 with fail
      rw [← hw1]
      clear hw1
      go_upto_region 3 with (first | (go_at_call 58; refine his.out.mono ?_; rintro e w9 ⟨rfl, hw9⟩; obtain rfl := hw9.symm; clear hw9))
      go_quiet (fail)
      have HBq := hid (below_drewN (Below.refl w1.heap.size w1) nq)
      generalize hwq : w1.drewN nq = w2 at HBq ⊢
      clear hwq y0 y1 y4 z0 z1 z2
      go_wp2
      exact bodyPost_ret (v := .tuple #[.int .i64 0, .int .i64 3]) (by simp [results, Try.results37, go_sem]) rfl (RDone.same HH.out HT.out (below_call HB1.out HBq.out))
  · rw [if_pos hp] at hR
    subst hR
    rw [decide_eq_false hp] at his
    go_enter Try.func37, Try.ntmps37
    go_upto_region 1 with fail
    rw [← hw1]
    clear hw1
    go_wp2_with (first | (go_at_call 58; refine his.out.mono ?_; rintro e w9 ⟨rfl, hw9⟩; obtain rfl := hw9.symm; clear hw9))
    exact bodyPost_ret (v := .tuple #[.int .i64 0, .int .i64 20]) (by simp [results, Try.results37, go_sem]) rfl (RDone.same HH.out HT.out HB1.out)
end Go.Proofs.Ytgdhdfmgfncdkaa
