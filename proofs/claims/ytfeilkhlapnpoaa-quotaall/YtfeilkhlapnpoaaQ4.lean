import Derived.Test.YtfeilkhlapnpoaaO1
namespace Go.Proofs.Ytfeilkhlapnpoaa
open Go.RowKit Go.Maps
set_option linter.unusedVariables false

theorem append_ints {w : World} {base : Nat} {a : Option Addr} {n cap : Nat} {L : List Value} {b : Option Addr} {m c : Nat} {M : List Value} (h : Own w base 3 a n cap L) (k : Row w b m c M) (hb : base ≤ w.heap.size) (hr : (n + m) * 8 ≤ 140737488355328) :
    ∃ a' cap' w', (Builtin.append_ #[34, 34] 34 #[.slice a n cap, .slice b m c]).run Try.prog w = .ok (.slice a' (n + m) cap') w' ∧ Own w' base 3 a' (n + m) cap' (L ++ M) ∧ Gr a a' w w' :=
  append_gen 34 3 _ 8 Try.underlying34 info3 rfl h k hb hr (by omega)
theorem take_step (A : List Int) (i : Nat) (h : i < A.length) : A.take (i + 1) = A.take i ++ [A[i]] := by
  rw [List.take_succ_eq_append_getElem h]
theorem append_one {w : World} {base : Nat} {a : Option Addr} {n cap : Nat} {L : List Int} (x : Int) (h : Own w base 3 a n cap (ints L)) (hb : base ≤ w.heap.size) (hr : (n + 1) * 8 ≤ 140737488355328) :
    ∃ a' cap' w', (Builtin.append_ #[34, 34] 34 #[.slice a n cap, .slice (some ⟨w.heap.size, 0, none⟩) 1 1]).run Try.prog (w.alloc (Obj.cells #[.int .i64 x] 3)) = .ok (.slice a' (n + 1) cap') w' ∧ Own w' base 3 a' (n + 1) cap' (ints (L ++ [x])) ∧ Gr a a' w w' := by
  obtain ⟨a', cap', w', hrun, hO, hG⟩ := append_ints (h.alloc (Obj.cells #[.int .i64 x] 3)) (Row.single w 3 (.int .i64 x) rfl) (by simp; omega) hr
  exact ⟨a', cap', w', hrun, by rw [ints_append]; exact hO, hG.pre (below1 _ _)⟩
theorem make_ints (w : World) (c : Nat) (hc : c ≤ 1024) : ∃ w', (Instr.makeSlice 34 (.int .i64 0) (.int .i64 (c : Int))).run Try.prog w = .ok (.slice (some ⟨w.heap.size, 0, none⟩) 0 c) w' ∧ Own w' w.heap.size 3 (some ⟨w.heap.size, 0, none⟩) 0 c (ints []) ∧ Below w.heap.size w w' := by
  obtain ⟨i, hi, hz0, hz1, hz2⟩ := info_parts info3
  obtain ⟨w', hr, ho, hg⟩ := run_make_own (P := Try.prog) w w.heap.size 34 3 i _ 1 Try.underlying34 hi hz0 hz1 .i64 .i64 c (by rw [hz2]; omega) (by unfold maxLen; omega) (Nat.le_refl _)
  exact ⟨w', hr, ⟨ho, ints_one []⟩, (Below.refl _ _).grown hg (Nat.le_refl _) (fun k hk => by cases hk)⟩
theorem own_some {w : World} {base : Nat} {e : TypeId} {a : Option Addr} {n cap : Nat} {L : List Value} (h : Own w base e a n cap L) (hn : 0 < n) : ∃ g, a = some ⟨g, 0, none⟩ := by
  rcases h.row.2 with ⟨h1, h2⟩ | ⟨g, c, cur, hv, _⟩
  · omega
  · simp only [Value.slice.injEq] at hv
    exact ⟨g, hv.1⟩
theorem ranges_but {S : Nat → Prop} {w w' : World} {b r n cnt : Nat} {D : DataW Unit} {left : Lit → Bool} (h : w.ranges Try.prog 3 (plainElem Try.prog 3) b r n D left cnt) (hb : But S w w') (h1 : ¬ S b) (h2 : ¬ S r) : w'.ranges Try.prog 3 (plainElem Try.prog 3) b r n D left cnt := by
  have l1 := h.owns.lt
  have l2 := h.lt
  obtain ⟨es, clock, since, seen, c0, hh, F, hs, hD, hr, rest⟩ := h
  exact ⟨es, clock, since, seen, c0, (hb.block b l1 h1).trans hh, F, hs, hD, (hb.block r l2 h2).trans hr, rest⟩
/-- How far Objects has come. -/
def ObjRel (w : World) (b r : Nat) (L : List Int) (D : DataW Unit) (o : Value) (w' : World) : Prop :=
  ∃ left cnt zs g cap, o = .slice (some ⟨g, 0, none⟩) zs.length cap ∧ Own w' w.heap.size 3 (some ⟨g, 0, none⟩) zs.length cap (ints zs) ∧ w'.ranges Try.prog 3 (plainElem Try.prog 3) b r L.length D left cnt ∧ Coll D left zs ∧ g ≠ r ∧ Below w.heap.size w w'
/-- A round. -/
theorem ObjRel.step {w w1 w2 : World} {b r cap cnt1 g : Nat} {L zs : List Int} {D : DataW Unit} {left : Lit → Bool} {x : Int} {a' : Option Addr} {cap' : Nat}
    (hO : Own w1 w.heap.size 3 (some ⟨g, 0, none⟩) zs.length cap (ints zs)) (hrg : w1.ranges Try.prog 3 (plainElem Try.prog 3) b r L.length D (fun z => left z && !z.sameKey (ky x)) cnt1)
    (hco : Coll D (fun z => left z && !z.sameKey (ky x)) (zs ++ [x])) (hgr : g ≠ r) (hbl : b < w.heap.size) (hB : Below w.heap.size w w1)
    (hO2 : Own w2 w.heap.size 3 a' (zs.length + 1) cap' (ints (zs ++ [x]))) (hG : Gr (some ⟨g, 0, none⟩) a' w1 w2) : ObjRel w b r L D (.slice a' (zs.length + 1) cap') w2 ∧ w2.rangeLeft b r = cnt1 := by
  obtain ⟨g', rfl⟩ := own_some hO2 (by omega)
  have hrl := hrg.lt
  have hg1 := hO.blk g ⟨_, rfl, rfl⟩
  have h2 := ranges_but hrg hG.but (fun ⟨_, e, h⟩ => by cases e; simp only at h; omega) (fun ⟨_, e, h⟩ => by cases e; exact hgr h)
  refine ⟨⟨_, cnt1, zs ++ [x], g', cap', by simp, by simpa using hO2, h2, hco, fun e => ?_, hB.trans (hG.below hO hB.size)⟩, h2.left_eq⟩
  rcases hG.on g' ⟨_, rfl, rfl⟩ with h | h
  · obtain ⟨_, e1, h⟩ := h
    cases e1
    simp only at h
    omega
  · omega
set_option maxRecDepth 100000 in
set_option maxHeartbeats 1000000 in
theorem objects_any {w : World} {g b : Nat} {e a : Int} {L : List Int} (h : Qu w g b e a L) :
    Calls Try.prog 12 #[.pointer (some ⟨g, 0, none⟩)] w fun r w' => ∃ p cap, r = .returned (.slice p (ob L).length cap) ∧ Own w' w.heap.size 3 p (ob L).length cap (ints (ob L)) ∧ Below w.heap.size w w' := by
  have hbl := h.blt
  have HQ := hid h
  have hll := h.sz.len
  have ha2 := h.sz.a2
  obtain ⟨c0, c1, c2, ⟨D, hown, hcn⟩, _⟩ := h
  have HC := hid hcn
  have hsz := size_cn hown hcn
  clear hcn
  obtain ⟨w1, hmk, hO1, hB1⟩ := make_ints w (Maps.size D) (by omega)
  have HO1 := hid hO1
  have HB1 := hid hB1
  have hown1 : owns w1 b L.length D := owns_but (S := fun _ => False) (But.of hB1) hown (fun h => h)
  have d2 := cell_later hB1 c2
  clear hO1 hB1
  go_enter Try.func12, Try.ntmps12
  go_upto_region 2 with (first | (at_len; refine wpList_len_own _ rfl _ 48 rfl 3 3 Try.underlying48 _ b _ _ rfl hown ?_))
  go_upto_region 3 with (first | (at_range; refine wpList_range_own _ rfl _ 48 rfl 3 3 law Try.underlying48 _ b _ _ rfl hown1 ?_; intro w0 hrg0 hg0 hs0; clear hs0))
  go_frame
  go_loopw [3] (ObjRel w b w1.heap.size L D) (fun _ wr => wr.rangeLeft b w1.heap.size)
  case atStart =>
    have hB0 := below_grown (Below.refl w1.heap.size w1) hg0 (fun k hk => by cases hk)
    exact ⟨_, _, [], w.heap.size, _, rfl, HO1.out.later hB0, hrg0, Coll.start D, fun e => by have := HO1.out.lt w.heap.size ⟨_, rfl, rfl⟩; omega, below_call HB1.out hB0⟩
  case round =>
    clear hrg0 hg0 hmk hown1 hown c0 c1 c2 d2
    obtain ⟨left, cnt, zs, g2, cap, rfl, hO, hrg, hcoll, hgr, hbel⟩ := hrel
    have hzl : zs.length ≤ L.length := nodup_le hcoll.1 (fun x hx => hcoll.mem HC.out hx)
    have HO := hid hO
    have HCO := hid hcoll
    have HB := hid hbel
    clear hcoll hbel hO
    go_wp2_with (first | (at_next; refine wpList_next_ranges_ii _ rfl _ rfl 3 3 .i64 .i64 law Try.underlying3 Try.underlying3 b w1.heap.size _ _ _ _ rfl hrg ?_ ?_))
    · intro _ hl0
      have HL := hid hl0
      have hso := hid (sort_own HO.out (by omega))
      clear hl0
      go_wp2_with (first | (go_at_call 22; refine hso.out.mono ?_; rintro e w3 ⟨rfl, ho3, hg3⟩; have HO3 := hid ho3; have HG3 := hid hg3; clear ho3 hg3))
      go_ret
      have he := ob_sort HCO.out.1 (HCO.out.all HC.out HL.out)
      have h3 := HO3.out
      rw [he] at h3
      have hlen := h3.len
      rw [ints_length] at hlen
      rw [hlen]
      exact ⟨_, _, rfl, h3, below_grown HB.out HG3.out (fun k hk => by cases hk; exact HO.out.blk _ ⟨_, rfl, rfl⟩)⟩
    · intro x c w2 cnt1 hwx hwc hlx hat hrg1 hlt hg1 hs1 hen
      have hco := HCO.out.step hlx hat
      have hO2 : Own w2 w.heap.size 3 (some ⟨g2, 0, none⟩) zs.length cap (ints zs) := HO.out.but (S := fun k => k = w1.heap.size) ⟨hg1.os, hg1.tape, hg1.output, hg1.size, fun k hk hn => hg1.block k hk (fun e => hn (by simpa using e))⟩ (fun k hk e => by
        obtain ⟨_, e1, h⟩ := hk
        cases e1
        exact hgr (h.trans e))
      have hB2 : Below w.heap.size w w2 := HB.out.grown hg1 HB.out.size (fun k hk => by cases hk; exact HB1.out.size)
      obtain ⟨a', cap', w3, hrun, hO3, hG3⟩ := append_one x hO2 hB2.size (by omega)
      have hst := hid (ObjRel.step hO2 hrg1 hco hgr hbl hB2 hO3 hG3)
      have hle := hid hrg.left_eq
      have HLT := hid hlt
      have HRUN := hid hrun
      clear hs1 hat hrg hrg1 hg1 hlx hlt hco hO2 hB2 hO3 hG3 hrun
      go_wp2_with (first | (at_builtin; refine wpList_append_known rfl _ _ 34 rfl _ _ rfl rfl _ w3 HRUN.out ?_))
      refine ⟨hst.out.1, ?_⟩
      rw [hst.out.2, hle.out]
      exact HLT.out
/-- How far two lists are alike. -/
def NumRel (A B : List Int) (w : World) (v : Value) (w' : World) : Prop := ∃ (i k : Nat), v = .int .i64 (i : Int) ∧ i ≤ A.length ∧ A.take i = B.take i ∧ w' = w.drewN k
set_option maxRecDepth 100000 in
set_option maxHeartbeats 1000000 in
theorem same_any (a b : Option Addr) (n m ca cb : Nat) (A B : List Int) (w : World) (hA : Row w a n ca (ints A)) (hB : Row w b m cb (ints B)) (hn : n < 9223372036854775807) :
    Calls Try.prog 16 #[.slice a n ca, .slice b m cb] w fun e w' => e = .returned (.bool (decide (A = B))) ∧ ∃ k, w' = w.drewN k := by
  have la : A.length = n := by have := hA.len; rwa [ints_length] at this
  have lb : B.length = m := by have := hB.len; rwa [ints_length] at this
  have HA := hid hA
  have HB := hid hB
  clear hA hB
  by_cases hnm : n = m
  · subst hnm
    obtain ⟨d, hd⟩ : ∃ d, d = decide (A = B) := ⟨_, rfl⟩
    rw [← hd]
    have HD := hid hd
    clear hd
    go_enter Try.func16, Try.ntmps16
    go_wp2
    go_loopw [5] (NumRel A B w) (fun k _ => n - (intOf k).toNat)
    case atStart => exact ⟨0, 0, rfl, Nat.zero_le _, rfl, rfl⟩
    case round =>
      obtain ⟨i, k, rfl, hi, htk, rfl⟩ := hrel
      have HT := hid htk
      clear htk
      by_cases hlt : i < n
      · have hd : decide ((i : Int) < (n : Int)) = true := decide_eq_true (by omega)
        obtain ⟨b1, o1, rfl, h1⟩ := HA.out.plain (by omega)
        obtain ⟨b2, o2, rfl, h2⟩ := HB.out.plain (by omega)
        have y1 := h1 i _ (ints_get A i (by omega))
        have y2 := h2 i _ (ints_get B i (by omega))
        obtain ⟨x, hx⟩ : ∃ x, x = A[i] := ⟨_, rfl⟩
        obtain ⟨y, hy⟩ : ∃ y, y = B[i] := ⟨_, rfl⟩
        rw [← hx] at y1
        rw [← hy] at y2
        have HX := hid hx
        have HY := hid hy
        clear h1 h2 hx hy
        by_cases hxy : x = y
        · have hq : (x != y) = false := by simp [hxy]
          go_wp2
          go_quiet (fail)
          go_wp2
          refine ⟨⟨i + 1, k + nq, rfl, by omega, ?_, rfl⟩, by simp [intOf]; omega⟩
          rw [take_step A i (by omega), take_step B i (by omega), HT.out, ← HX.out, ← HY.out, hxy]
        · have hq : (x != y) = true := by simp [hxy]
          go_wp2
          go_quiet (fail)
          go_wp2
          go_ret
          refine ⟨ret_bool ?_, k + nq, by simp⟩
          rw [HD.out]
          exact (decide_eq_false (fun e => hxy (by rw [HX.out, HY.out]; simp only [e]))).symm
      · obtain rfl : i = n := by omega
        have hd : decide ((i : Int) < (i : Int)) = false := by simp
        go_wp2
        go_ret
        refine ⟨ret_bool ?_, k, rfl⟩
        rw [HD.out]
        have := HT.out
        rw [List.take_of_length_le (by omega), List.take_of_length_le (by omega)] at this
        exact (decide_eq_true this).symm
  · have hd : ((n : Int) != (m : Int)) = true := by simp; omega
    have e : decide (A = B) = false := decide_eq_false (fun e => hnm (by rw [← la, ← lb, e]))
    rw [e]
    go_enter Try.func16, Try.ntmps16
    go_wp2
    go_ret
    exact ⟨rfl, 0, rfl⟩
end Go.Proofs.Ytfeilkhlapnpoaa
