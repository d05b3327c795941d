import Derived.Test.YtlelglfdamakaaaMH
import Derived.BigRegion
namespace Go.Proofs.Ytlelglfdamakaaa
open Go.RowKit Go.Shelf H
set_option linter.unusedVariables false

/-! ### The document's catalogue -/
/-- A place: a token, if live; when it was put in. -/
structure Pc where
  lv : Bool
  c : Cp
  r : Int
  p : Int
  wh : Int
structure Pp (w : World) (b o : Nat) (x : Pc) : Prop where
  c0 : w.cell? ⟨b, o, none⟩ = some (.bool x.lv)
  c1 : w.cell? ⟨b, o + 1, none⟩ = some (.int .i64 x.c.1)
  c2 : w.cell? ⟨b, o + 2, none⟩ = some (.int .u64 (x.c.2.1 : Int))
  c3 : w.cell? ⟨b, o + 3, none⟩ = some (.int .u64 (x.c.2.2 : Int))
  c4 : w.cell? ⟨b, o + 4, none⟩ = some (.int .i64 x.r)
  c5 : w.cell? ⟨b, o + 5, none⟩ = some (.int .i64 x.p)
  c6 : w.cell? ⟨b, o + 6, none⟩ = some (.int .i64 x.wh)
theorem Pp.but {S : Nat → Prop} {w w' : World} {b o : Nat} {x : Pc} (hb : But S w w') (h : Pp w b o x) (hn : ¬ S b) : Pp w' b o x :=
  ⟨cell_but hb h.c0 hn, cell_but hb h.c1 hn, cell_but hb h.c2 hn, cell_but hb h.c3 hn, cell_but hb h.c4 hn, cell_but hb h.c5 hn, cell_but hb h.c6 hn⟩
theorem Pp.off {w : World} {b o o' : Nat} {x : Pc} {u : Value} (h : Pp w b o x) (hne : o' < o ∨ o + 7 ≤ o') : Pp (w.setCell ⟨b, o', none⟩ u) b o x :=
  ⟨cell_ne h.c0 (by omega), cell_ne h.c1 (by omega), cell_ne h.c2 (by omega), cell_ne h.c3 (by omega), cell_ne h.c4 (by omega), cell_ne h.c5 (by omega), cell_ne h.c6 (by omega)⟩
def set7 (w : World) (b o : Nat) (x : Pc) : World :=
  ((((((w.setCell ⟨b, o, none⟩ (.bool x.lv)).setCell ⟨b, o + 1, none⟩ (.int .i64 x.c.1)).setCell ⟨b, o + 2, none⟩ (.int .u64 (x.c.2.1 : Int))).setCell ⟨b, o + 3, none⟩ (.int .u64 (x.c.2.2 : Int))).setCell ⟨b, o + 4, none⟩ (.int .i64 x.r)).setCell ⟨b, o + 5, none⟩ (.int .i64 x.p)).setCell ⟨b, o + 6, none⟩ (.int .i64 x.wh)
theorem set7_but {S : Nat → Prop} {a w : World} (h : But S a w) {b : Nat} (hb : S b) (o : Nat) (x : Pc) : But S a (set7 w b o x) :=
  ((((((h.setCell (p := ⟨b, o, none⟩) hb _).setCell (p := ⟨b, o + 1, none⟩) hb _).setCell (p := ⟨b, o + 2, none⟩) hb _).setCell (p := ⟨b, o + 3, none⟩) hb _).setCell (p := ⟨b, o + 4, none⟩) hb _).setCell (p := ⟨b, o + 5, none⟩) hb _).setCell (p := ⟨b, o + 6, none⟩) hb _
theorem Pp.set {w : World} {b o : Nat} {y : Pc} (h : Pp w b o y) (x : Pc) : Pp (set7 w b o x) b o x := by
  unfold set7
  refine ⟨?_, ?_, ?_, ?_, ?_, ?_, ?_⟩
  · exact cell_ne (cell_ne (cell_ne (cell_ne (cell_ne (cell_ne (World.cell?_setCell_same _ _ _ h.c0) (by omega)) (by omega)) (by omega)) (by omega)) (by omega)) (by omega)
  · exact cell_ne (cell_ne (cell_ne (cell_ne (cell_ne (World.cell?_setCell_same _ _ _ (cell_ne h.c1 (by omega))) (by omega)) (by omega)) (by omega)) (by omega)) (by omega)
  · exact cell_ne (cell_ne (cell_ne (cell_ne (World.cell?_setCell_same _ _ _ (cell_ne (cell_ne h.c2 (by omega)) (by omega))) (by omega)) (by omega)) (by omega)) (by omega)
  · exact cell_ne (cell_ne (cell_ne (World.cell?_setCell_same _ _ _ (cell_ne (cell_ne (cell_ne h.c3 (by omega)) (by omega)) (by omega))) (by omega)) (by omega)) (by omega)
  · exact cell_ne (cell_ne (World.cell?_setCell_same _ _ _ (cell_ne (cell_ne (cell_ne (cell_ne h.c4 (by omega)) (by omega)) (by omega)) (by omega))) (by omega)) (by omega)
  · exact cell_ne (World.cell?_setCell_same _ _ _ (cell_ne (cell_ne (cell_ne (cell_ne (cell_ne h.c5 (by omega)) (by omega)) (by omega)) (by omega)) (by omega))) (by omega)
  · exact World.cell?_setCell_same _ _ _ (cell_ne (cell_ne (cell_ne (cell_ne (cell_ne (cell_ne h.c6 (by omega)) (by omega)) (by omega)) (by omega)) (by omega)) (by omega))
theorem Pp.setOff {w : World} {b o o' : Nat} {y : Pc} (h : Pp w b o y) (x : Pc) (hne : o' + 7 ≤ o ∨ o + 7 ≤ o') : Pp (set7 w b o' x) b o y := by
  unfold set7
  exact ((((((h.off (by omega)).off (by omega)).off (by omega)).off (by omega)).off (by omega)).off (by omega)).off (by omega)
def pc0 : Pc := ⟨false, (0, 0, 0), 0, 0, 0⟩
/-- What stands at a number. -/
def plc (X : List Tk) (l : Fo) (wh : Int → Int) (i : Int) : Pc := if i ∈ nums l then ⟨true, (tk X i).1, rg X i, par l i, wh i⟩ else pc0
theorem plc_in {X : List Tk} {l : Fo} {wh : Int → Int} {i : Int} (h : i ∈ nums l) : plc X l wh i = ⟨true, (tk X i).1, rg X i, par l i, wh i⟩ := by unfold plc; rw [if_pos h]
theorem plc_out {X : List Tk} {l : Fo} {wh : Int → Int} {i : Int} (h : i ∉ nums l) : plc X l wh i = pc0 := by unfold plc; rw [if_neg h]
/-- The document's catalogue in memory. -/
structure Rf (w : World) (r b mo : Nat) (X : List Tk) (l : Fo) (wh : Int → Int) (ev : Nat) : Prop where
  c0 : w.cell? ⟨r, 0, none⟩ = some (.slice (some ⟨b, 0, none⟩) mo mo)
  c1 : Lies w ⟨r, 1, none⟩ (.int .i64 (ev : Int))
  at_ : ∀ i : Nat, i < mo → Pp w b (i * 7) (plc X l wh (i : Int))
  fr : ∀ j, w.frozen? ⟨b, j, none⟩ = false
  ltb : b < w.heap.size
  ne : r ≠ b
  big : mo ≤ 256
theorem Rf.ltr {w : World} {r b mo : Nat} {X : List Tk} {l : Fo} {wh : Int → Int} {ev : Nat} (h : Rf w r b mo X l wh ev) : r < w.heap.size := World.block_lt_of_cell? _ _ h.c0
theorem Rf.but {S : Nat → Prop} {w w' : World} {r b mo : Nat} {X : List Tk} {l : Fo} {wh : Int → Int} {ev : Nat} (h : Rf w r b mo X l wh ev) (hb : But S w w') (h1 : ¬ S r) (h2 : ¬ S b) : Rf w' r b mo X l wh ev :=
  ⟨cell_but hb h.c0 h1, h.c1.but hb h1, fun i hi => (h.at_ i hi).but hb h2, fun j => by rw [World.frozen?_of_block (w := w) (hb.block b h.ltb h2)]; exact h.fr j, Nat.lt_of_lt_of_le h.ltb hb.size, h.ne, h.big⟩
theorem Rf.later {w w' : World} {r b mo : Nat} {X : List Tk} {l : Fo} {wh : Int → Int} {ev : Nat} (h : Rf w r b mo X l wh ev) (hb : Below w.heap.size w w') : Rf w' r b mo X l wh ev := h.but (S := fun _ => False) (But.of hb) (fun h => h) (fun h => h)
/-- A place is written. -/
theorem Rf.set {w : World} {r b mo : Nat} {X X' : List Tk} {l l' : Fo} {wh wh' : Int → Int} {ev : Nat} (h : Rf w r b mo X l wh ev) {k : Nat} (hk : k < mo) {x : Pc} (hx : plc X' l' wh' (k : Int) = x) (ho : ∀ i : Nat, i < mo → i ≠ k → plc X' l' wh' (i : Int) = plc X l wh (i : Int)) : Rf (set7 w b (k * 7) x) r b mo X' l' wh' ev := by
  have hb : But (· = b) w (set7 w b (k * 7) x) := set7_but (S := (· = b)) (But.refl _ _) rfl _ _
  refine ⟨cell_but hb h.c0 h.ne, h.c1.but hb h.ne, fun i hi => ?_, fun j => by simpa [set7] using h.fr j, Nat.lt_of_lt_of_le h.ltb hb.size, h.ne, h.big⟩
  by_cases e : i = k
  · subst e
    rw [hx]
    exact (h.at_ i hi).set _
  · rw [ho i hi e]
    exact (h.at_ i hi).setOff _ (by omega)
theorem rvalid_any (r : Int) (w : World) :
    Calls Try.prog 64 #[.int .i64 r] w fun e w' => e = .returned (.bool (validB r)) ∧ w' = w := by
  by_cases h1 : 1 ≤ r
  · by_cases h2 : r ≤ 31
    · have hz : validB r = true := decide_eq_true (by omega)
      rw [hz]; clear hz
      go_enter Try.func64, Try.ntmps64
      go_wp2
      go_ret
      exact ⟨rfl, rfl⟩
    · have hz : validB r = false := decide_eq_false (by omega)
      rw [hz]; clear hz
      go_enter Try.func64, Try.ntmps64
      go_wp2
      go_ret
      exact ⟨rfl, rfl⟩
  · have hz : validB r = false := decide_eq_false (by omega)
    rw [hz]; clear hz
    go_enter Try.func64, Try.ntmps64
    go_wp2
    go_ret
    exact ⟨rfl, rfl⟩
theorem rpart_any (a b : Int) (hb : validB b = true) (w : World) :
    Calls Try.prog 49 #[.int .i64 a, .int .i64 b] w fun e w' => e = .returned (.bool (partB a b)) ∧ w' = w := by
  by_cases h1 : validB a = true
  · obtain ⟨n, rfl, _, hn⟩ := valid_nat h1
    obtain ⟨m, rfl, _, hm⟩ := valid_nat hb
    have hbo := i64_or_nat n m hn hm
    have HP : Hid (partB (n : Int) (m : Int) = decide (n ||| m = m)) := by unfold Hid partB; rw [h1, hb]; simp only [Bool.and_self, Bool.true_and, Int.toNat_natCast]; exact or_of_and n hn m hm
    go_enter Try.func49, Try.ntmps49
    go_wp2_with (first | (go_at_call 64; refine (rvalid_any _ _).mono ?_; rintro e w1 ⟨rfl, rfl⟩))
    go_ret
    refine ⟨?_, rfl⟩
    rw [HP.out]
    apply ret_bool
    exact beq_nat _ _
  · have h1 : validB a = false := by simpa using h1
    have hz : partB a b = false := by unfold partB; rw [h1]; simp
    rw [hz]; clear hz
    go_enter Try.func49, Try.ntmps49
    go_wp2_with (first | (go_at_call 64; refine (rvalid_any _ _).mono ?_; rintro e w1 ⟨rfl, rfl⟩))
    go_ret
    exact ⟨rfl, rfl⟩
set_option maxRecDepth 100000 in
set_option maxHeartbeats 1000000 in
theorem ris_any {w : World} {r b mo : Nat} {X : List Tk} {l : Fo} {wh : Int → Int} {ev : Nat} (h : Rf w r b mo X l wh ev) (hr : ∀ x ∈ nums l, 0 ≤ x ∧ x < (mo : Int)) (n : Int) :
    Calls Try.prog 67 #[.pointer (some ⟨r, 0, none⟩), .int .i64 n] w fun e w' => e = .returned (.bool (decide (n ∈ nums l))) ∧ w' = w := by
  have x0 := h.c0
  have hbig := h.big
  by_cases hn : 0 ≤ n ∧ n < (mo : Int)
  · obtain ⟨k, rfl⟩ : ∃ k : Nat, n = (k : Int) := ⟨n.toNat, by omega⟩
    have hP := h.at_ k (by omega)
    have p0 : w.cell? ⟨b, k * 7, none⟩ = some (.bool (decide ((k : Int) ∈ nums l))) := by
      rw [hP.c0]
      by_cases hk : (k : Int) ∈ nums l
      · rw [plc_in hk, decide_eq_true hk]
      · rw [plc_out hk, decide_eq_false hk]; rfl
    generalize decide ((k : Int) ∈ nums l) = d at *
    clear h hP hr
    go_enter Try.func67, Try.ntmps67
    go_wp2
    go_ret
    exact ⟨rfl, rfl⟩
  · have hf : decide (n ∈ nums l) = false := decide_eq_false (fun hm => hn (hr n hm))
    rw [hf]
    clear h hr
    by_cases h0 : 0 ≤ n
    · have h1 : ¬ n < (mo : Int) := by omega
      go_enter Try.func67, Try.ntmps67
      go_wp2
      go_ret
      exact ⟨rfl, rfl⟩
    · go_enter Try.func67, Try.ntmps67
      go_wp2
      go_ret
      exact ⟨rfl, rfl⟩
end Go.Proofs.Ytlelglfdamakaaa
namespace Go.Proofs.Ytlelglfdamakaaa
open Go.RowKit Go.Shelf H
set_option linter.unusedVariables false

/-! ### New, Find, In, Count -/
theorem info110 : (Try.prog.info? 110).map (fun i => (i.zero, i.size, i.bytes)) = some (some (.agg #[.bool false, .int .i64 0, .int .u64 0, .int .u64 0, .int .i64 0, .int .i64 0, .int .i64 0]), 7, 56) := by kernel_rfl
theorem make_places (w : World) (n : Nat) (hn : n ≤ 1024) :
    ∃ w', (Instr.makeSlice 106 (.int .i64 (n : Int)) (.int .i64 (n : Int))).run Try.prog w = .ok (.slice (some ⟨w.heap.size, 0, none⟩) n n) w' ∧ (∀ i : Nat, i < n → Pp w' w.heap.size (i * 7) pc0) ∧ (∀ j, w'.frozen? ⟨w.heap.size, j, none⟩ = false) ∧ w.heap.size < w'.heap.size ∧ Below w.heap.size w w' := by
  obtain ⟨i, hi, hz0, hz1, hz2⟩ := info_parts info110
  obtain ⟨w', hr, ho, hg⟩ := run_make_full (P := Try.prog) w w.heap.size 106 110 i _ 7 Try.underlying106 hi hz0 hz1 .i64 .i64 n (by rw [hz2]; omega) (by unfold maxLen; omega) (Nat.le_refl _)
  have hcell : ∀ j c u, j < n → c < 7 → (#[.bool false, .int .i64 0, .int .u64 0, .int .u64 0, .int .i64 0, .int .i64 0, .int .i64 0] : Array Value)[c]! = u → w'.cell? ⟨w.heap.size, j * 7 + c, none⟩ = some u := by
    intro j c u hj hc hu
    have hm : (j * 7 + c) % 7 = c := by omega
    have := ho.cells (g := w.heap.size) rfl (j * 7 + c) u (by
      rw [Array.getElem?_toList]
      simp only [madeCells, Value.cells, Array.getElem?_map, Array.getElem?_range]
      rw [if_pos (by omega)]
      simp only [Option.map_some, Option.some.injEq, Array.size, List.length, hm]
      exact hu)
    rw [addr_add0] at this
    exact this
  refine ⟨w', hr, fun j hj => ⟨hcell j 0 _ hj (by omega) rfl, hcell j 1 _ hj (by omega) rfl, hcell j 2 _ hj (by omega) rfl, hcell j 3 _ hj (by omega) rfl, hcell j 4 _ hj (by omega) rfl, hcell j 5 _ hj (by omega) rfl, hcell j 6 _ hj (by omega) rfl⟩, fun j => ?_, (own_block ho _ rfl).2, (Below.refl _ _).grown hg (Nat.le_refl _) (fun k hk => by cases hk)⟩
  rcases ho.2 with ⟨h0, _⟩ | ⟨g, c, cur, hv, _, hh, hc, _⟩
  · simp at h0
  · simp only [Value.slice.injEq, Option.some.injEq, Addr.mk.injEq] at hv
    obtain ⟨⟨rfl, _⟩, _, rfl⟩ := hv
    simp [World.frozen?, hh]
def RNew (w : World) (mo : Nat) (e : Ending) (w' : World) : Prop :=
  ∃ r b : Nat, e = .returned (.tuple #[.pointer (some ⟨r, 0, none⟩), .int .i64 0]) ∧ Rf w' r b mo (List.replicate mo tz) [] (fun _ => 0) 0 ∧ w.heap.size ≤ r ∧ w.heap.size ≤ b ∧ Below w.heap.size w w'
set_option maxRecDepth 100000 in
set_option maxHeartbeats 1000000 in
theorem rnew_ok (w : World) (mo kn : Nat) (h1 : 1 ≤ mo) (h2 : mo ≤ 256) (h3 : kn ≤ 64) : Calls Try.prog 26 #[.int .i64 (mo : Int), .int .i64 (kn : Int)] w (RNew w mo) := by
  have hk1 : ¬ (mo : Int) < 1 := by omega
  have hk2 : ¬ (256 : Int) < (mo : Int) := by omega
  have hk3 : ¬ (kn : Int) < 0 := by omega
  have hk4 : ¬ (64 : Int) < (kn : Int) := by omega
  obtain ⟨w2, hr, hA, hF, hsz, hb⟩ := make_places w mo (by omega)
  have HA := hid hA
  have HFr := hid hF
  have HB := hid hb
  clear hA hF hb
  go_enter Try.func26, Try.ntmps26
  go_wp2
  have hb4 : Below w2.heap.size w2 (w2.alloc (Obj.cells #[.slice (some ⟨w.heap.size, 0, none⟩) mo mo, .int .i64 0] 108)) := below1 _ _
  refine bodyPost_ret (v := .tuple #[.pointer (some ⟨w2.heap.size, 0, none⟩), .int .i64 0]) (by simp [results, Try.results26, go_sem]) rfl ⟨w2.heap.size, w.heap.size, rfl, ⟨by simp [go_sem], ⟨by simp [go_sem], by simp [go_sem]⟩, fun i hi => ?_, fun j => ?_, Nat.lt_of_lt_of_le hsz hb4.size, by omega, h2⟩, HB.out.size, Nat.le_refl _, below_call HB.out hb4⟩
  · rw [plc_out (by intro h; cases h)]
    exact (HA.out i hi).but (S := fun _ => False) (But.of hb4) (fun h => h)
  · rw [World.frozen?_of_block (w := w2) (hb4.block w.heap.size hsz)]
    exact HFr.out j
def RFindRel (w1 : World) (X : List Tk) (l : Fo) (c : Cp) (mo : Nat) (t : Value) (w' : World) : Prop :=
  ∃ i : Nat, i ≤ mo ∧ t = .int .i64 (i : Int) ∧ Hid (∀ j : Nat, j < i → (j : Int) ∈ nums l → (tk X (j : Int)).1 ≠ c) ∧ Below w1.heap.size w1 w'
set_option maxRecDepth 100000 in
set_option maxHeartbeats 2000000 in
theorem rfind_any {w : World} {r b mo : Nat} {X : List Tk} {l : Fo} {wh : Int → Int} {ev : Nat} (h : Rf w r b mo X l wh ev) (hv : Inv mo X l) (o : Int) (hi lo : Nat) :
    Calls Try.prog 22 #[.pointer (some ⟨r, 0, none⟩), .agg #[.int .i64 o, .int .u64 (hi : Int), .int .u64 (lo : Int)]] w fun e w' => e = .returned (.tuple #[.int .i64 (findN X l (o, hi, lo)), .bool (hasC X l (o, hi, lo))]) ∧ Below w.heap.size w w' := by
  obtain ⟨w1, hw1⟩ : ∃ w1, w1 = w.alloc (Obj.cells #[.int .i64 o, .int .u64 (hi : Int), .int .u64 (lo : Int)] 32) := ⟨_, rfl⟩
  have hB1 : Below w.heap.size w w1 := by rw [hw1]; exact below1 _ _
  have z0 : w1.cell? ⟨w.heap.size, 0, none⟩ = some (.int .i64 o) := by rw [hw1]; simp [go_sem]
  have z1 : w1.cell? ⟨w.heap.size, 1, none⟩ = some (.int .u64 (hi : Int)) := by rw [hw1]; simp [go_sem]
  have z2 : w1.cell? ⟨w.heap.size, 2, none⟩ = some (.int .u64 (lo : Int)) := by rw [hw1]; simp [go_sem]
  have H1 := hid (h.later hB1)
  have HV := hid hv
  have HB1 := hid hB1
  have hbig := h.big
  have HZ : Hid (∀ W, Below w1.heap.size w1 W → W.cell? ⟨w.heap.size, 0, none⟩ = some (.int .i64 o) ∧ W.cell? ⟨w.heap.size, 1, none⟩ = some (.int .u64 (hi : Int)) ∧ W.cell? ⟨w.heap.size, 2, none⟩ = some (.int .u64 (lo : Int))) := fun W hW => ⟨cell_later hW z0, cell_later hW z1, cell_later hW z2⟩
  clear h hB1 hv z0 z1 z2
  go_enter Try.func22, Try.ntmps22
  go_upto_region 1 with fail
  rw [← hw1]
  clear hw1
  go_upto_region 2 with fail
  go_loopw [6] (RFindRel w1 X l (o, hi, lo) mo) (fun t _ => mo - (intOf t).toNat)
  case atStart => exact ⟨0, Nat.zero_le _, rfl, fun j hj => by omega, Below.refl _ _⟩
  case round =>
    obtain ⟨i, hi_, rfl, hx, hB⟩ := hrel
    have hR := H1.out.later hB
    have x0 := hR.c0
    by_cases hlt : i < mo
    · obtain ⟨p0, p1, p2, p3, p4, p5, p6⟩ := hR.at_ i hlt
      obtain ⟨z0, z1, z2⟩ := HZ.out wr hB
      have HB := hid hB
      by_cases hin : (i : Int) ∈ nums l
      · rw [plc_in hin] at p0 p1 p2 p3
        simp only at p0 p1 p2 p3
        obtain ⟨⟨ot, ht_, lt_⟩, r0, hxx⟩ : ∃ c r, tk X (i : Int) = (c, r) := ⟨_, _, rfl⟩
        rw [hxx] at p1 p2 p3
        simp only at p1 p2 p3
        by_cases hc : (ot, ht_, lt_) = (o, hi, lo)
        · obtain ⟨rfl, rfl, rfl⟩ : ot = o ∧ ht_ = hi ∧ lt_ = lo := by simpa using hc
          have HR1 : Hid (findN X l (ot, ht_, lt_) = (i : Int) ∧ hasC X l (ot, ht_, lt_) = true) := by
            have e1 := findN_in HV.out hin
            rw [hxx] at e1
            exact ⟨e1, hasC_iff.2 ⟨_, hin, by rw [hxx]⟩⟩
          have heq := fun W => eqlC ot (ht_ : Int) (lt_ : Int) ot (ht_ : Int) (lt_ : Int) W
          simp only [show cEq ot (ht_ : Int) (lt_ : Int) ot (ht_ : Int) (lt_ : Int) = true by simp [cEq]] at heq
          clear hB hR hc hxx hin p4 p5 p6
          go_upto_region 4 with fail
          go_quiet (fail)
          go_wp2
          exact bodyPost_ret (v := .tuple #[.int .i64 (i : Int), .bool true]) (by simp [results, Try.results22, go_sem]) rfl ⟨by rw [HR1.out.1, HR1.out.2], below_drewN (below_call HB1.out HB.out) _⟩
        · have hq1 : cEq ot (ht_ : Int) (lt_ : Int) o (hi : Int) (lo : Int) = false := decide_eq_false fun hq => hc (Prod.ext hq.1 (Prod.ext (Int.ofNat.inj hq.2.1) (Int.ofNat.inj hq.2.2)))
          have heq := fun W => eqlC ot (ht_ : Int) (lt_ : Int) o (hi : Int) (lo : Int) W
          simp only [hq1] at heq
          have hx1 : Hid (∀ j : Nat, j < i + 1 → (j : Int) ∈ nums l → (tk X (j : Int)).1 ≠ (o, hi, lo)) := fun j hj hjl => by
            by_cases e : j = i
            · subst e; rw [hxx]; exact hc
            · exact hx.out j (by omega) hjl
          clear hB hR hc hxx hin p4 p5 p6 hq1
          go_upto_region 4 with fail
          go_quiet (fail)
          go_wp2
          exact ⟨⟨i + 1, by omega, by go_num, hx1, below_drewN HB.out _⟩, by simp [intOf]; omega⟩
      · rw [plc_out hin] at p0
        simp only [pc0] at p0
        have hx1 : Hid (∀ j : Nat, j < i + 1 → (j : Int) ∈ nums l → (tk X (j : Int)).1 ≠ (o, hi, lo)) := fun j hj hjl => by
          by_cases e : j = i
          · subst e; exact absurd hjl hin
          · exact hx.out j (by omega) hjl
        clear hB hR hin p1 p2 p3 p4 p5 p6
        go_upto_region 4 with fail
        go_quiet (fail)
        go_wp2
        exact ⟨⟨i + 1, by omega, by go_num, hx1, below_drewN HB.out _⟩, by simp [intOf]; omega⟩
    · obtain rfl : i = mo := by omega
      have HB := hid hB
      have hno : hasC X l (o, hi, lo) = false := by
        cases hc : hasC X l (o, hi, lo) with
        | false => rfl
        | true =>
          obtain ⟨n, hn, e⟩ := hasC_iff.1 hc
          have hrn := HV.out.ok.range n hn
          obtain ⟨k, rfl⟩ : ∃ k : Nat, n = (k : Int) := ⟨n.toNat, by omega⟩
          exact absurd e (hx.out k (by omega) hn)
      have HR1 : Hid (findN X l (o, hi, lo) = 0 ∧ hasC X l (o, hi, lo) = false) := ⟨findN_out hno, hno⟩
      clear hB hR hno
      go_wp2
      exact bodyPost_ret (v := .tuple #[.int .i64 0, .bool false]) (by simp [results, Try.results22, go_sem]) rfl ⟨by rw [HR1.out.1, HR1.out.2], below_call HB1.out HB.out⟩
set_option maxRecDepth 100000 in
set_option maxHeartbeats 2000000 in
theorem rcount_any {w : World} {r b mo : Nat} {X : List Tk} {l : Fo} {wh : Int → Int} {ev : Nat} (h : Rf w r b mo X l wh ev) (hok : Ok mo l) :
    Calls Try.prog 20 #[.pointer (some ⟨r, 0, none⟩)] w fun e w' => e = .returned (.int .i64 (l.length : Int)) ∧ w' = w := by
  have x0 := h.c0
  have HH := hid h
  have hbig := h.big
  have hcn := cntF_all hok.nodup hok.range
  rw [nums_len] at hcn
  have HC := hid hcn
  clear h hcn
  go_enter Try.func20, Try.ntmps20
  go_upto_region 3 with fail
  go_loopw [3, 4] (fun v t w' => ∃ i : Nat, i ≤ mo ∧ t = .int .i64 (i : Int) ∧ v = .int .i64 (cntF (fun x => decide (x ∈ nums l)) i : Int) ∧ w = w') (fun _ t _ => mo - (intOf t).toNat)
  case atStart => exact ⟨0, Nat.zero_le _, rfl, rfl, rfl⟩
  case round =>
    obtain ⟨i, hi_, rfl, rfl, rfl⟩ := hrel
    by_cases hlt : i < mo
    · have p0 := (HH.out.at_ i hlt).c0
      have hsu := cntF_succ (fun x => decide (x ∈ nums l)) i
      have hle := cntF_le (fun x => decide (x ∈ nums l)) i
      by_cases hin : (i : Int) ∈ nums l
      · rw [plc_in hin] at p0
        rw [if_pos (by simpa using hin)] at hsu
        have HSU := hid hsu
        simp only at p0
        clear hsu hin
        generalize hff : cntF (fun x => decide (x ∈ nums l)) i = ff at *
        clear hff
        go_wp2
        exact ⟨⟨i + 1, by omega, by go_num, by rw [HSU.out]; go_num, trivial⟩, by simp [intOf]; omega⟩
      · rw [plc_out hin] at p0
        rw [if_neg (by simpa using hin)] at hsu
        have HSU := hid hsu
        simp only [pc0] at p0
        clear hsu hin
        generalize hff : cntF (fun x => decide (x ∈ nums l)) i = ff at *
        clear hff
        go_wp2
        exact ⟨⟨i + 1, by omega, by go_num, by rw [HSU.out]; go_num, trivial⟩, by simp [intOf]; omega⟩
    · obtain rfl : i = mo := by omega
      rw [HC.out]
      go_wp2
      go_ret
      exact ⟨rfl, rfl⟩
set_option maxRecDepth 100000 in
set_option maxHeartbeats 2000000 in
theorem rin_any {w : World} {r b mo : Nat} {X : List Tk} {l : Fo} {wh : Int → Int} {ev : Nat} (h : Rf w r b mo X l wh ev) (hok : Ok mo l) (o : Int) :
    Calls Try.prog 65 #[.pointer (some ⟨r, 0, none⟩), .int .i64 o] w fun e w' => e = .returned (.int .i64 (inN X l o : Int)) ∧ w' = w := by
  have x0 := h.c0
  have HH := hid h
  have hbig := h.big
  have HC := hid (inF_all (X := X) hok o)
  clear h
  go_enter Try.func65, Try.ntmps65
  go_upto_region 3 with fail
  go_loopw [5, 6] (fun v t w' => ∃ i : Nat, i ≤ mo ∧ t = .int .i64 (i : Int) ∧ v = .int .i64 (inF X l o i : Int) ∧ w = w') (fun _ t _ => mo - (intOf t).toNat)
  case atStart => exact ⟨0, Nat.zero_le _, rfl, rfl, rfl⟩
  case round =>
    obtain ⟨i, hi_, rfl, rfl, rfl⟩ := hrel
    by_cases hlt : i < mo
    · obtain ⟨p0, p1, p2, p3, p4, p5, p6⟩ := HH.out.at_ i hlt
      have hsu := inF_succ X l o i
      have hle := inF_le X l o i
      by_cases hin : (i : Int) ∈ nums l
      · rw [plc_in hin] at p0 p1
        simp only at p0 p1
        change w.cell? _ = some (.int .i64 (ob X (i : Int))) at p1
        by_cases hq : ob X (i : Int) = o
        · rw [if_pos ⟨hin, hq⟩] at hsu
          have hb : (ob X (i : Int) == o) = true := by simp [hq]
          have HSU := hid hsu
          clear hsu hin hq p2 p3 p4 p5 p6
          generalize ob X (i : Int) = oo at *
          generalize hff : inF X l o i = ff at *
          clear hff
          go_wp2
          exact ⟨⟨i + 1, by omega, by go_num, by rw [HSU.out]; go_num, trivial⟩, by simp [intOf]; omega⟩
        · rw [if_neg (fun hc => hq hc.2)] at hsu
          have hb : (ob X (i : Int) == o) = false := by simp [hq]
          have HSU := hid hsu
          clear hsu hin hq p2 p3 p4 p5 p6
          generalize ob X (i : Int) = oo at *
          generalize hff : inF X l o i = ff at *
          clear hff
          go_wp2
          exact ⟨⟨i + 1, by omega, by go_num, by rw [HSU.out]; go_num, trivial⟩, by simp [intOf]; omega⟩
      · rw [plc_out hin] at p0
        rw [if_neg (fun hc => hin hc.1)] at hsu
        have HSU := hid hsu
        simp only [pc0] at p0
        clear hsu hin p1 p2 p3 p4 p5 p6
        generalize hff : inF X l o i = ff at *
        clear hff
        go_wp2
        exact ⟨⟨i + 1, by omega, by go_num, by rw [HSU.out]; go_num, trivial⟩, by simp [intOf]; omega⟩
    · obtain rfl : i = mo := by omega
      rw [HC.out]
      go_wp2
      go_ret
      exact ⟨rfl, rfl⟩
end Go.Proofs.Ytlelglfdamakaaa
