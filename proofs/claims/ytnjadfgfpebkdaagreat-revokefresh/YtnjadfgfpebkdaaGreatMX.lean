import Derived.Test.YtnjadfgfpebkdaaGreatMQ
namespace Go.Proofs.YtnjadfgfpebkdaaGreat.Q
open Go.RowKit Go.Maps
set_option linter.unusedVariables false

theorem append_ints {w : World} {base : Nat} {a : Option Addr} {n cap : Nat} {L : List Value} {b : Option Addr} {m c : Nat} {M : List Value} (h : Own w base 3 a n cap L) (k : Row w b m c M) (hb : base ≤ w.heap.size) (hr : (n + m) * 8 ≤ 140737488355328) :
    ∃ a' cap' w', (Builtin.append_ #[36, 36] 36 #[.slice a n cap, .slice b m c]).run Tryz.prog w = .ok (.slice a' (n + m) cap') w' ∧ Own w' base 3 a' (n + m) cap' (L ++ M) ∧ Gr a a' w w' :=
  append_gen 36 3 _ 8 Tryz.underlying36 info3 rfl h k hb hr (by omega)
theorem take_step (A : List Int) (i : Nat) (h : i < A.length) : A.take (i + 1) = A.take i ++ [A[i]] := by
  rw [List.take_succ_eq_append_getElem h]
theorem append_one {w : World} {base : Nat} {a : Option Addr} {n cap : Nat} {L : List Int} (x : Int) (h : Own w base 3 a n cap (ints L)) (hb : base ≤ w.heap.size) (hr : (n + 1) * 8 ≤ 140737488355328) :
    ∃ a' cap' w', (Builtin.append_ #[36, 36] 36 #[.slice a n cap, .slice (some ⟨w.heap.size, 0, none⟩) 1 1]).run Tryz.prog (w.alloc (Obj.cells #[.int .i64 x] 3)) = .ok (.slice a' (n + 1) cap') w' ∧ Own w' base 3 a' (n + 1) cap' (ints (L ++ [x])) ∧ Gr a a' w w' := by
  obtain ⟨a', cap', w', hrun, hO, hG⟩ := append_ints (h.alloc (Obj.cells #[.int .i64 x] 3)) (Row.single w 3 (.int .i64 x) rfl) (by simp; omega) hr
  exact ⟨a', cap', w', hrun, by rw [ints_append]; exact hO, hG.pre (below1 _ _)⟩
end Go.Proofs.YtnjadfgfpebkdaaGreat.Q
namespace Go.Proofs.YtnjadfgfpebkdaaGreat.Q
open Go.RowKit Go.Maps
set_option linter.unusedVariables false

/-- The document's quota in memory. -/
structure Rf (w : World) (base r : Nat) (e a : Int) (pa : Option Addr) (cap : Nat) (L : List Int) : Prop where
  c0 : w.cell? ⟨r, 0, none⟩ = some (.int .i64 e)
  c1 : w.cell? ⟨r, 1, none⟩ = some (.int .i64 a)
  c2 : Lies w ⟨r, 2, none⟩ (.slice pa L.length cap)
  own : Own w base 3 pa L.length cap (ints L)
  ap : ∀ k, Blk pa k → k ≠ r
  sz : Sz e a L
  lo : base ≤ r
theorem Rf.rlt {w : World} {base r : Nat} {e a : Int} {pa : Option Addr} {cap : Nat} {L : List Int} (h : Rf w base r e a pa cap L) : r < w.heap.size := World.block_lt_of_cell? _ _ h.c0
theorem Rf.but {S : Nat → Prop} {w w' : World} {base r : Nat} {e a : Int} {pa : Option Addr} {cap : Nat} {L : List Int} (h : Rf w base r e a pa cap L) (hb : But S w w') (h1 : ¬ S r) (h2 : ∀ k, Blk pa k → ¬ S k) : Rf w' base r e a pa cap L :=
  ⟨cell_but hb h.c0 h1, cell_but hb h.c1 h1, h.c2.but hb h1, h.own.but hb h2, h.ap, h.sz, h.lo⟩
theorem Rf.later {w w' : World} {base r : Nat} {e a : Int} {pa : Option Addr} {cap : Nat} {L : List Int} (h : Rf w base r e a pa cap L) (hb : Below w.heap.size w w') : Rf w' base r e a pa cap L := h.but (S := fun _ => False) (But.of hb) (fun h => h) (fun _ _ h => h)
theorem count_take (L : List Int) (x : Int) (i : Nat) (h : i < L.length) : (L.take (i + 1)).count x = (L.take i).count x + if L[i] = x then 1 else 0 := by
  rw [take_step _ _ h, List.count_append]
  simp [List.count_cons]
theorem count_take_le (L : List Int) (x : Int) (i : Nat) : (L.take i).count x ≤ L.length := Nat.le_trans List.count_le_length (by rw [List.length_take]; exact Nat.min_le_right _ _)
def ROfRel (W : World) (L : List Int) (x : Int) (s t : Value) (w' : World) : Prop := ∃ i : Nat, i ≤ L.length ∧ s = .int .i64 ((L.take i).count x : Int) ∧ t = .int .i64 (i : Int) ∧ W = w'
set_option maxRecDepth 100000 in
set_option maxHeartbeats 1000000 in
theorem rof_any {w : World} {base r : Nat} {e a : Int} {pa : Option Addr} {cap : Nat} {L : List Int} (h : Rf w base r e a pa cap L) (x : Int) :
    Calls Tryz.prog 21 #[.pointer (some ⟨r, 0, none⟩), .int .i64 x] w fun e w' => e = .returned (.int .i64 (L.count x : Int)) ∧ w' = w := by
  have HO := hid h.own
  have c2 := h.c2.1
  have hll := h.sz.len
  have ha2 := h.sz.a2
  clear h
  go_enter Tryz.func21, Tryz.ntmps21
  go_wp2
  go_loopw [5, 6] (ROfRel w L x) (fun _ t _ => L.length - (intOf t).toNat)
  case atStart => exact ⟨0, Nat.zero_le _, by simp, rfl, rfl⟩
  case round =>
    obtain ⟨i, hi, rfl, rfl, rfl⟩ := hrel
    by_cases hlt : i < L.length
    · have hd : decide ((i : Int) < (L.length : Int)) = true := decide_eq_true (by omega)
      obtain ⟨lb, lo, rfl, h1⟩ := HO.out.read.plain (by omega)
      have y1 := h1 i _ (ints_get _ i hlt)
      have hct := count_take L x i hlt
      have hle := count_take_le L x i
      obtain ⟨y, hy⟩ : ∃ y, y = L[i] := ⟨_, rfl⟩
      rw [← hy] at y1 hct
      obtain ⟨k, hk⟩ : ∃ k : Nat, k = (L.take i).count x := ⟨_, rfl⟩
      rw [← hk] at hct hle
      rw [← hk]
      by_cases hyx : y = x
      · have hq : (y == x) = true := by simp [hyx]
        rw [if_pos hyx] at hct
        have HN : Hid (ROfRel w L x (.int .i64 ((k : Int) + 1)) (.int .i64 ((i : Int) + 1)) w) := ⟨i + 1, by omega, by rw [hct]; rfl, rfl, rfl⟩
        clear h1 hy hk hct
        go_wp2
        exact ⟨HN.out, by simp [intOf]; omega⟩
      · have hq : (y == x) = false := by simp [hyx]
        rw [if_neg hyx] at hct
        have HN : Hid (ROfRel w L x (.int .i64 (k : Int)) (.int .i64 ((i : Int) + 1)) w) := ⟨i + 1, by omega, by rw [hct]; rfl, rfl, rfl⟩
        clear h1 hy hk hct
        go_wp2
        exact ⟨HN.out, by simp [intOf]; omega⟩
    · obtain rfl : i = L.length := by omega
      have hd : decide ((L.length : Int) < (L.length : Int)) = false := by simp
      go_wp2
      go_ret
      exact ⟨ret_int (by rw [List.take_length]), rfl⟩
set_option maxRecDepth 100000 in
set_option maxHeartbeats 1000000 in
theorem rmay_any {w : World} {base r : Nat} {e a : Int} {pa : Option Addr} {cap : Nat} {L : List Int} (h : Rf w base r e a pa cap L) (x : Int) :
    Calls Tryz.prog 42 #[.pointer (some ⟨r, 0, none⟩), .int .i64 x] w fun s w' => s = .returned (.int .i64 (may e a L x)) ∧ Below w.heap.size w w' := by
  have hof := hid (fun (U : World) (hU : Below w.heap.size w U) => rof_any (h.later hU) x)
  have hm : Hid (may e a L x = if e ≤ (L.count x : Int) then 9 else if a ≤ (L.length : Int) then 10 else 0) := rfl
  have hC0 : Hid (∀ U : World, Below w.heap.size w U → (U.cell? ⟨r, 0, none⟩ = some (.int .i64 e)) ∧ Below w.heap.size w U) := fun U hU => ⟨cell_later hU h.c0, hU⟩
  have HC1 := hid h.c1
  have HC2 := hid h.c2.1
  clear h
  generalize (L.count x : Int) = c at *
  have hr1 : Hid (e ≤ c → may e a L x = 9) := fun h1 => by rw [hm.out, if_pos h1]
  have hr2 : Hid (c < e → a ≤ (L.length : Int) → may e a L x = 10) := fun h1 h2 => by rw [hm.out, if_neg (by omega), if_pos h2]
  have hr3 : Hid (c < e → (L.length : Int) < a → may e a L x = 0) := fun h1 h2 => by rw [hm.out, if_neg (by omega), if_neg (by omega)]
  clear hm
  generalize may e a L x = mm at *
  go_enter Tryz.func42, Tryz.ntmps42
  go_upto_region 1 with fail
  go_region_held3 (fun U => (U.cell? ⟨r, 0, none⟩ = some (.int .i64 e)) ∧ Below w.heap.size w U) (first | exact hC0.out _ HB2.out | exact hC0.out _ (Below.refl _ _).drew) (first
    | (go_at_call 21; refine (hof.out _ (Below.refl _ _).drew).mono ?_; rintro e w2 ⟨rfl, hw2⟩; have HB2 : Hid (Below w.heap.size w w2) := (by unfold Hid; rw [hw2]; exact (Below.refl _ _).drew); clear hw2))
  have d1 := cell_later HB2.out HC1.out
  have d2 := cell_later HB2.out HC2.out
  by_cases h1 : e ≤ c
  · have hd : decide (c ≥ e) = true := decide_eq_true h1
    go_wp2
    go_ret
    exact ⟨by rw [hr1.out (by omega)]; rfl, HB2.out⟩
  · have hd : decide (c ≥ e) = false := decide_eq_false h1
    go_upto_region 3 with fail
    go_quiet (fail)
    by_cases h2 : a ≤ (L.length : Int)
    · have hd : decide ((L.length : Int) ≥ a) = true := decide_eq_true h2
      go_wp2
      go_ret
      exact ⟨by rw [hr2.out (by omega) (by omega)]; rfl, below_drewN HB2.out _⟩
    · have hd : decide ((L.length : Int) ≥ a) = false := decide_eq_false h2
      go_wp2
      go_ret
      exact ⟨by rw [hr3.out (by omega) (by omega)]; rfl, below_drewN HB2.out _⟩
end Go.Proofs.YtnjadfgfpebkdaaGreat.Q
namespace Go.Proofs.YtnjadfgfpebkdaaGreat.Q
open Go.RowKit Go.Maps
set_option linter.unusedVariables false

/-- What a call may write: the struct and the list. -/
structure Rd (w w' : World) (r : Nat) (pa pa' : Option Addr) : Prop where
  but : But (fun k => k = r ∨ Blk pa k) w w'
  on : ∀ k, Blk pa' k → Blk pa k ∨ w.heap.size ≤ k
theorem Rd.refl {w w' : World} (r : Nat) (pa : Option Addr) (h : Below w.heap.size w w') : Rd w w' r pa pa := ⟨But.of h, fun _ h => .inl h⟩
set_option maxRecDepth 100000 in
set_option maxHeartbeats 1000000 in
theorem rnew_ok (e a : Int) (w : World) (h : okB e a) :
    Calls Tryz.prog 32 #[.int .i64 e, .int .i64 a] w fun s w' => ∃ r, s = .returned (.tuple #[.pointer (some ⟨r, 0, none⟩), .int .i64 0]) ∧ Rf w' w.heap.size r e a none 0 [] ∧ Below w.heap.size w w' := by
  have HS : Hid (Sz e a []) := ⟨h.1.1, h.1.2, h.2.1, h.2.2, by have := h.2.1; simp; omega, fun x => by have := h.1.1; simp; omega⟩
  have h1 : decide (e < 1) = false := decide_eq_false (by have := h.1; omega)
  have h2 : decide (e > 256) = false := decide_eq_false (by have := h.1; omega)
  have h3 : decide (a < 1) = false := decide_eq_false (by have := h.2; omega)
  have h4 : decide (a > 256) = false := decide_eq_false (by have := h.2; omega)
  clear h
  go_enter Tryz.func32, Tryz.ntmps32
  go_wp2
  have hB := below1 w (.cells #[.int .i64 e, .int .i64 a, .slice none 0 0] 90)
  exact bodyPost_ret (v := .tuple #[.pointer (some ⟨w.heap.size, 0, none⟩), .int .i64 0]) (by simp [results, Tryz.results32, go_sem]) rfl ⟨w.heap.size, rfl, ⟨by simp [go_sem], by simp [go_sem], ⟨by simp [go_sem], by simp [go_sem]⟩, Own.nil _ _ _, fun k hk => (by obtain ⟨_, e, _⟩ := hk; cases e), HS.out, Nat.le_refl _⟩, hB⟩
/-- A list is put into the struct. -/
theorem Rf.put {w : World} {base r : Nat} {e a : Int} {pa pb : Option Addr} {cap n c : Nat} {L M : List Int} (h0 : w.cell? ⟨r, 0, none⟩ = some (.int .i64 e)) (h1 : w.cell? ⟨r, 1, none⟩ = some (.int .i64 a)) (h2 : Lies w ⟨r, 2, none⟩ (.slice pa n cap))
    (ho : Own w base 3 pb M.length c (ints M)) (hap : ∀ k, Blk pb k → k ≠ r) (hs : Sz e a M) (hlo : base ≤ r) : Rf (w.setCell ⟨r, 2, none⟩ (.slice pb M.length c)) base r e a pb c M :=
  ⟨by rw [World.cell?_setCell_other _ _ _ _ (by simp)]; exact h0, by rw [World.cell?_setCell_other _ _ _ _ (by simp)]; exact h1, h2.put, ho.but ((But.refl (fun k => k = r) w).setCell (p := ⟨r, 2, none⟩) rfl _) hap, hap, hs, hlo⟩
set_option maxRecDepth 100000 in
set_option maxHeartbeats 1000000 in
theorem radd_any {w : World} {base r : Nat} {e a : Int} {pa : Option Addr} {cap : Nat} {L : List Int} (h : Rf w base r e a pa cap L) (x : Int) :
    Calls Tryz.prog 41 #[.pointer (some ⟨r, 0, none⟩), .int .i64 x] w fun s w' => ∃ pa' cap', s = .returned (.int .i64 (may e a L x)) ∧ Rf w' base r e a pa' cap' (addL e a L x) ∧ Rd w w' r pa pa' := by
  have hma := hid (rmay_any h x)
  by_cases hm : may e a L x = 0
  · have hA : addL e a L x = L ++ [x] := by unfold addL; rw [if_pos hm]
    have hS := hid (hA ▸ h.sz.add x)
    rw [hm] at hma ⊢
    rw [hA]
    have hl1 := h.sz.len
    have hl2 := h.sz.a2
    have hQ := hid (fun (U : World) (hU : Below w.heap.size w U) => h.later hU)
    clear h hA hm
    go_enter Tryz.func41, Tryz.ntmps41
    go_upto_region 3 with (first | (go_at_call 42; refine hma.out.mono ?_; rintro e w1 ⟨rfl, hb1⟩; have HB1 := hid hb1; clear hb1))
    have hR1 := hQ.out _ HB1.out
    obtain ⟨a', cap', w2, hrun, hO2, hG2⟩ := append_one x hR1.own (by have := hR1.lo; have := hR1.rlt; omega) (by omega)
    have hpr : ¬ Blk pa r := fun hb => hR1.ap r hb rfl
    have c2 := hR1.c2.1
    obtain ⟨d2, f2⟩ := hR1.c2.but hG2.but hpr
    have hfin : Hid (Rf (w2.setCell ⟨r, 2, none⟩ (.slice a' (L.length + 1) cap')) base r e a a' cap' (L ++ [x]) ∧ Rd w (w2.setCell ⟨r, 2, none⟩ (.slice a' (L.length + 1) cap')) r pa a') := by
      have hl : (L ++ [x]).length = L.length + 1 := by simp
      rw [← hl]
      refine ⟨Rf.put (L := L) (cell_but hG2.but hR1.c0 hpr) (cell_but hG2.but hR1.c1 hpr) ⟨d2, f2⟩ (by rw [hl]; exact hO2) (fun k hk => ?_) hS.out hR1.lo, ((But.of HB1.out).trans (hG2.but.mono (fun k hk => .inr hk))).setCell (.inl rfl) _, fun k hk => ?_⟩
      · rcases hG2.on k hk with h1 | h1
        · exact hR1.ap k h1
        · have := hR1.rlt; omega
      · rcases hG2.on k hk with h1 | h1
        · exact .inl h1
        · exact .inr (Nat.le_trans HB1.out.size h1)
    have HRUN := hid hrun
    clear hR1 hrun hO2 hG2 hpr
    go_wp2_with (first | (at_builtin; refine wpList_append_known rfl _ _ 36 rfl _ _ rfl rfl _ w2 HRUN.out ?_))
    go_ret
    exact ⟨a', cap', rfl, hfin.out.1, hfin.out.2⟩
  · have hA : addL e a L x = L := by unfold addL; rw [if_neg hm]
    rw [hA]
    have hQ := hid (fun (U : World) (hU : Below w.heap.size w U) => h.later hU)
    clear h hA
    generalize may e a L x = mm at *
    have hd : (mm == 0) = false := by simp [hm]
    go_enter Tryz.func41, Tryz.ntmps41
    go_wp2_with (first | (go_at_call 42; refine hma.out.mono ?_; rintro e w1 ⟨rfl, hb1⟩; have HB1 := hid hb1; clear hb1))
    go_ret
    exact ⟨pa, cap, rfl, hQ.out _ HB1.out, Rd.refl _ _ HB1.out⟩
/-- How far Sub has come. -/
def RSubRel (w : World) (x : Int) (N : Nat) (L : List Int) (s l t : Value) (w' : World) : Prop :=
  ∃ i m lf al cl, i ≤ L.length ∧ s = .int .i64 ((m : Nat) : Int) ∧ m ≤ N ∧ l = .slice al (lf : List Int).length cl ∧ t = .int .i64 ((i : Nat) : Int) ∧ lf.length ≤ i ∧ Own w' w.heap.size 3 al lf.length cl (ints lf) ∧ lf ++ subL x m (L.drop i) = subL x N L ∧ Below w.heap.size w w'
theorem subL_skip (x y : Int) (m : Nat) (l : List Int) (h : y ≠ x ∨ m = 0) : subL x m (y :: l) = y :: subL x m l := by
  cases m with
  | zero => simp [subL_zero]
  | succ m => 
    rcases h with h | h
    · simp [subL, h]
    · omega
set_option maxRecDepth 100000 in
set_option maxHeartbeats 2000000 in
theorem rsub_any {w : World} {base r : Nat} {e a : Int} {pa : Option Addr} {cap : Nat} {L : List Int} (h : Rf w base r e a pa cap L) (x n : Int) :
    Calls Tryz.prog 67 #[.pointer (some ⟨r, 0, none⟩), .int .i64 x, .int .i64 n] w fun s w' => ∃ pa' cap', s = .returned (.int .i64 (subO L x n)) ∧ Rf w' base r e a pa' cap' (subS L x n) ∧ Rd w w' r pa pa' := by
  have hof := hid (rof_any h x)
  have HR := hid h
  have hS := hid (h.sz.sub x n)
  obtain ⟨c, hc⟩ : ∃ c : Int, c = (L.count x : Int) := ⟨_, rfl⟩
  have hc0 : 0 ≤ c := by omega
  have hcl : c ≤ 256 := by have := h.sz.cnt x; have := h.sz.e2; omega
  have hll : L.length ≤ 256 := by have := h.sz.len; have := h.sz.a2; omega
  rw [← hc] at hof
  by_cases h1 : n < 0 ∨ c < n
  · have hR : subO L x n = 20 ∧ subS L x n = L := by unfold subO subS; rw [← hc, if_pos h1, if_pos h1]; exact ⟨rfl, rfl⟩
    rw [hR.1, hR.2]
    clear hc hS hR h
    by_cases h2 : n < 0
    · have hd : decide (n < 0) = true := decide_eq_true h2
      go_enter Tryz.func67, Tryz.ntmps67
      go_wp2_with (first | (go_at_call 21; refine hof.out.mono ?_; rintro e w1 ⟨rfl, hw1⟩; obtain rfl := hw1.symm; clear hw1))
      go_ret
      exact ⟨pa, cap, rfl, HR.out, Rd.refl _ _ (Below.refl _ _)⟩
    · have hd : decide (n < 0) = false := decide_eq_false h2
      have hd2 : decide (n > c) = true := decide_eq_true (by omega)
      have h3 : c < n := by omega
      go_enter Tryz.func67, Tryz.ntmps67
      go_wp2_with (first | (go_at_call 21; refine hof.out.mono ?_; rintro e w1 ⟨rfl, hw1⟩; obtain rfl := hw1.symm; clear hw1))
      go_ret
      exact ⟨pa, cap, rfl, HR.out, Rd.refl _ _ (Below.refl _ _)⟩
  · have hR : subO L x n = 0 ∧ subS L x n = subL x n.toNat L := by unfold subO subS; rw [← hc, if_neg h1, if_neg h1]; exact ⟨rfl, rfl⟩
    rw [hR.2] at hS
    rw [hR.1, hR.2]
    have hd : decide (n < 0) = false := decide_eq_false (by omega)
    have hd2 : decide (n > c) = false := decide_eq_false (by omega)
    obtain ⟨N, rfl⟩ : ∃ N : Nat, n = (N : Int) := ⟨n.toNat, by omega⟩
    rw [Int.toNat_natCast] at hS ⊢
    have hN : N ≤ 256 := by omega
    clear hR hc h1 h
    go_enter Tryz.func67, Tryz.ntmps67
    go_upto_region 5 with (first | (go_at_call 21; refine hof.out.mono ?_; rintro e w1 ⟨rfl, hw1⟩; obtain rfl := hw1.symm; clear hw1))
    go_loopw [2, 7, 8] (RSubRel w x N L) (fun _ _ t _ => L.length - (intOf t).toNat)
    case atStart => exact ⟨0, N, [], none, 0, Nat.zero_le _, rfl, Nat.le_refl _, rfl, rfl, Nat.le_refl _, Own.nil _ _ _, by simp, Below.refl _ _⟩
    case round =>
      obtain ⟨i, m, lf, al, cl, hi, rfl, hm, rfl, rfl, hlf, hO, heq, hB⟩ := hrel
      have hR := HR.out.later hB
      have c2 := hR.c2.1
      by_cases hlt : i < L.length
      · have hdi : decide ((i : Int) < (L.length : Int)) = true := decide_eq_true (by omega)
        obtain ⟨lb, lo, rfl, h1⟩ := hR.own.read.plain (by omega)
        have y1 := h1 i _ (ints_get _ i hlt)
        have hdr : L.drop i = L[i] :: L.drop (i + 1) := List.drop_eq_getElem_cons hlt
        rw [hdr] at heq
        obtain ⟨y, hy⟩ : ∃ y, y = L[i] := ⟨_, rfl⟩
        rw [← hy] at y1 heq
        clear h1 hy hdr hR
        by_cases hyx : y = x ∧ 0 < m
        · obtain ⟨rfl, hm0⟩ := hyx
          obtain ⟨m', rfl⟩ : ∃ m', m = m' + 1 := ⟨m - 1, by omega⟩
          have heq2 : lf ++ subL y m' (L.drop (i + 1)) = subL y N L := by rw [← heq]; simp [subL]
          have HN : Hid (RSubRel w y N L (.int .i64 (m' : Int)) (.slice al lf.length cl) (.int .i64 ((i : Int) + 1)) wr) := ⟨i + 1, m', lf, al, cl, by omega, rfl, by omega, rfl, rfl, by omega, hO, heq2, hB⟩
          have hq : (y == y) = true := by simp
          have hq2 : decide (((m' : Int) + 1) > 0) = true := decide_eq_true (by omega)
          have hq3 : (0 : Int) < (m' : Int) + 1 := by omega
          clear heq heq2 hO hB
          go_wp2
          exact ⟨HN.out, by simp [intOf]; omega⟩
        · have hsk : y ≠ x ∨ m = 0 := by omega
          have heq2 : (lf ++ [y]) ++ subL x m (L.drop (i + 1)) = subL x N L := by rw [← heq, subL_skip _ _ _ _ hsk, List.append_assoc]; rfl
          obtain ⟨al', cl', w3, hrun, hO3, hG3⟩ := append_one y hO hB.size (by omega)
          have HN : Hid (RSubRel w x N L (.int .i64 (m : Int)) (.slice al' (lf.length + 1) cl') (.int .i64 ((i : Int) + 1)) w3) := ⟨i + 1, m, lf ++ [y], al', cl', by omega, rfl, hm, by simp, rfl, by simp; omega, by simpa using hO3, heq2, hB.trans (hG3.below hO hB.size)⟩
          have HRUN := hid hrun
          clear heq heq2 hO hB hrun hO3 hG3 hyx
          by_cases hyx : y = x
          · subst hyx
            obtain rfl : m = 0 := by omega
            have hq : (y == y) = true := by simp
            simp only [Int.natCast_zero] at HN ⊢
            go_wp2_with (first | (at_builtin; refine wpList_append_known rfl _ _ 36 rfl _ _ rfl rfl _ w3 HRUN.out ?_))
            exact ⟨HN.out, by simp [intOf]; omega⟩
          · have hq : (y == x) = false := by simp [hyx]
            go_wp2_with (first | (at_builtin; refine wpList_append_known rfl _ _ 36 rfl _ _ rfl rfl _ w3 HRUN.out ?_))
            exact ⟨HN.out, by simp [intOf]; omega⟩
      · obtain rfl : i = L.length := by omega
        have hdi : decide ((L.length : Int) < (L.length : Int)) = false := by simp
        rw [List.drop_length] at heq
        have hsl : subL x m [] = [] := by cases m <;> rfl
        rw [hsl, List.append_nil] at heq
        subst heq
        obtain ⟨d2, f2⟩ := hR.c2
        have hfin : Hid (Rf (wr.setCell ⟨r, 2, none⟩ (.slice al (subL x N L).length cl)) base r e a al cl (subL x N L) ∧ Rd w (wr.setCell ⟨r, 2, none⟩ (.slice al (subL x N L).length cl)) r pa al) := by
          refine ⟨Rf.put (L := L) hR.c0 hR.c1 hR.c2 (hO.mono (by have := HR.out.lo; have := HR.out.rlt; omega)) (fun k hk => ?_) hS.out hR.lo, (But.of hB).setCell (.inl rfl) _, fun k hk => .inr (hO.blk k hk)⟩
          have := hO.blk k hk
          have := HR.out.rlt
          omega
        clear hO hB hR
        go_wp2
        go_ret
        exact ⟨al, cl, rfl, hfin.out.1, hfin.out.2⟩
end Go.Proofs.YtnjadfgfpebkdaaGreat.Q
