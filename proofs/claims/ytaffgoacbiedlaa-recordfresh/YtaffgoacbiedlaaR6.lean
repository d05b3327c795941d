import Derived.Test.YtaffgoacbiedlaaR5
namespace Go.Proofs.Ytaffgoacbiedlaa
open Go.RowKit
set_option linter.unusedVariables false
set_option linter.unusedSimpArgs false

theorem part_some (p : Nat) (hp : p < 10) (g gb base : Nat) (R : List Nat) (L : List Value) (c : Cl) (w : World) (h : Co w base L c) (hrd : Rd w g gb R) (hg : g < base) (hgb : gb < base) (hbs : base ≤ w.heap.size) (hl : R.length ≤ 140737488355328) {c' : Cl} {R' : List Nat} (hr : rdP p c R = some (c', R')) :
    Calls Try.prog 62 #[.pointer (some ⟨g, 0, none⟩), .agg L.toArray, .int .i64 (p : Int)] w fun e w' => ∃ L', e = .returned (.agg L'.toArray) ∧ Co w' base L' c' ∧ Rd w' g gb R' ∧ But (· = g) w w' := by
  rcases (by omega : p = 0 ∨ p = 1 ∨ p = 2 ∨ p = 3 ∨ p = 4 ∨ p = 5 ∨ p = 6 ∨ p = 7 ∨ p = 8 ∨ p = 9) with rfl | rfl | rfl | rfl | rfl | rfl | rfl | rfl | rfl | rfl
  · simp only [rdP, if_true, if_false, Option.map_eq_some_iff, Prod.exists, Prod.mk.injEq] at hr
    obtain ⟨v, Q, hv, rfl, rfl⟩ := hr
    exact part_ok0 g gb base R L c w h hrd hg hgb hbs hv
  · simp only [rdP, if_true, if_false, show ¬ (1 : Nat) = 0 by omega, Option.map_eq_some_iff, Prod.exists, Prod.mk.injEq] at hr
    obtain ⟨v, Q, hv, rfl, rfl⟩ := hr
    exact part_ok1 g gb base R L c w h hrd hg hgb hbs hv
  · simp only [rdP, if_true, if_false, show ¬ (2 : Nat) = 0 by omega, show ¬ (2 : Nat) = 1 by omega] at hr
    split at hr
    · cases hr
    · rename_i h16
      simp only [Option.some.injEq, Prod.mk.injEq] at hr
      obtain ⟨rfl, rfl⟩ := hr
      exact part_ok2 g gb base R L c w h hrd hg hgb hbs h16
  · simp only [rdP, if_true, if_false, show ¬ (3 : Nat) = 0 by omega, show ¬ (3 : Nat) = 1 by omega, show ¬ (3 : Nat) = 2 by omega, Option.map_eq_some_iff, Prod.exists, Prod.mk.injEq] at hr
    obtain ⟨v, Q, hv, rfl, rfl⟩ := hr
    exact part_ok3 g gb base R L c w h hrd hg hgb hbs hv
  · simp only [rdP, if_true, if_false, show ¬ (4 : Nat) = 0 by omega, show ¬ (4 : Nat) = 1 by omega, show ¬ (4 : Nat) = 2 by omega, show ¬ (4 : Nat) = 3 by omega, Option.map_eq_some_iff, Prod.exists, Prod.mk.injEq] at hr
    obtain ⟨v, Q, hv, rfl, rfl⟩ := hr
    exact part_ok4 g gb base R L c w h hrd hg hgb hbs hv
  · simp only [rdP, if_true, if_false, show ¬ (5 : Nat) = 0 by omega, show ¬ (5 : Nat) = 1 by omega, show ¬ (5 : Nat) = 2 by omega, show ¬ (5 : Nat) = 3 by omega, show ¬ (5 : Nat) = 4 by omega, Option.map_eq_some_iff, Prod.exists, Prod.mk.injEq] at hr
    obtain ⟨v, Q, hv, rfl, rfl⟩ := hr
    exact part_ok5 g gb base R L c w h hrd hg hgb hbs hv
  · simp only [rdP, if_true, if_false, show ¬ (6 : Nat) = 0 by omega, show ¬ (6 : Nat) = 1 by omega, show ¬ (6 : Nat) = 2 by omega, show ¬ (6 : Nat) = 3 by omega, show ¬ (6 : Nat) = 4 by omega, show ¬ (6 : Nat) = 5 by omega, Option.map_eq_some_iff, Prod.exists, Prod.mk.injEq] at hr
    obtain ⟨v, Q, hv, rfl, rfl⟩ := hr
    exact part_ok6 g gb base R L c w h hrd hg hgb hbs hv
  · simp only [rdP, if_true, if_false, show ¬ (7 : Nat) = 0 by omega, show ¬ (7 : Nat) = 1 by omega, show ¬ (7 : Nat) = 2 by omega, show ¬ (7 : Nat) = 3 by omega, show ¬ (7 : Nat) = 4 by omega, show ¬ (7 : Nat) = 5 by omega, show ¬ (7 : Nat) = 6 by omega, Option.some.injEq, Prod.mk.injEq] at hr
    obtain ⟨rfl, rfl⟩ := hr
    exact part_ok7 g gb base R L c w h hrd hg hgb hbs hl
  · simp only [rdP, if_true, if_false, show ¬ (8 : Nat) = 0 by omega, show ¬ (8 : Nat) = 1 by omega, show ¬ (8 : Nat) = 2 by omega, show ¬ (8 : Nat) = 3 by omega, show ¬ (8 : Nat) = 4 by omega, show ¬ (8 : Nat) = 5 by omega, show ¬ (8 : Nat) = 6 by omega, show ¬ (8 : Nat) = 7 by omega, Option.map_eq_some_iff, Prod.exists, Prod.mk.injEq] at hr
    obtain ⟨v, Q, hv, rfl, rfl⟩ := hr
    exact part_ok8 g gb base R L c w h hrd hg hgb hbs hv
  · simp only [rdP, if_true, if_false, show ¬ (9 : Nat) = 0 by omega, show ¬ (9 : Nat) = 1 by omega, show ¬ (9 : Nat) = 2 by omega, show ¬ (9 : Nat) = 3 by omega, show ¬ (9 : Nat) = 4 by omega, show ¬ (9 : Nat) = 5 by omega, show ¬ (9 : Nat) = 6 by omega, show ¬ (9 : Nat) = 7 by omega, show ¬ (9 : Nat) = 8 by omega] at hr
    split at hr
    · cases hr
    · rename_i k R1 hv
      split at hr
      · cases hr
      · rename_i h2
        simp only [Option.some.injEq, Prod.mk.injEq] at hr
        obtain ⟨rfl, rfl⟩ := hr
        exact part_ok9 g gb base R L c w h hrd hg hgb hbs hv h2
theorem part_none (p : Nat) (hp : p < 10) (g gb base : Nat) (R : List Nat) (L : List Value) (c : Cl) (w : World) (h : Co w base L c) (hrd : Rd w g gb R) (hg : g < base) (hgb : gb < base) (hbs : base ≤ w.heap.size) (hr : rdP p c R = none) :
    Calls Try.prog 62 #[.pointer (some ⟨g, 0, none⟩), .agg L.toArray, .int .i64 (p : Int)] w fun e w' => Gave e ∧ But (· = g) w w' := by
  rcases (by omega : p = 0 ∨ p = 1 ∨ p = 2 ∨ p = 3 ∨ p = 4 ∨ p = 5 ∨ p = 6 ∨ p = 7 ∨ p = 8 ∨ p = 9) with rfl | rfl | rfl | rfl | rfl | rfl | rfl | rfl | rfl | rfl
  · simp only [rdP, if_true, if_false, Option.map_eq_none_iff] at hr
    exact part_bad0 g gb base R L c w h hrd hg hgb hbs hr
  · simp only [rdP, if_true, if_false, show ¬ (1 : Nat) = 0 by omega, Option.map_eq_none_iff] at hr
    exact part_bad1 g gb base R L c w h hrd hg hgb hbs hr
  · simp only [rdP, if_true, if_false, show ¬ (2 : Nat) = 0 by omega, show ¬ (2 : Nat) = 1 by omega] at hr
    split at hr
    · rename_i h16
      exact part_bad2 g gb base R L c w h hrd hg hgb hbs h16
    · cases hr
  · simp only [rdP, if_true, if_false, show ¬ (3 : Nat) = 0 by omega, show ¬ (3 : Nat) = 1 by omega, show ¬ (3 : Nat) = 2 by omega, Option.map_eq_none_iff] at hr
    exact part_bad3 g gb base R L c w h hrd hg hgb hbs hr
  · simp only [rdP, if_true, if_false, show ¬ (4 : Nat) = 0 by omega, show ¬ (4 : Nat) = 1 by omega, show ¬ (4 : Nat) = 2 by omega, show ¬ (4 : Nat) = 3 by omega, Option.map_eq_none_iff] at hr
    exact part_bad4 g gb base R L c w h hrd hg hgb hbs hr
  · simp only [rdP, if_true, if_false, show ¬ (5 : Nat) = 0 by omega, show ¬ (5 : Nat) = 1 by omega, show ¬ (5 : Nat) = 2 by omega, show ¬ (5 : Nat) = 3 by omega, show ¬ (5 : Nat) = 4 by omega, Option.map_eq_none_iff] at hr
    exact part_bad5 g gb base R L c w h hrd hg hgb hbs hr
  · simp only [rdP, if_true, if_false, show ¬ (6 : Nat) = 0 by omega, show ¬ (6 : Nat) = 1 by omega, show ¬ (6 : Nat) = 2 by omega, show ¬ (6 : Nat) = 3 by omega, show ¬ (6 : Nat) = 4 by omega, show ¬ (6 : Nat) = 5 by omega, Option.map_eq_none_iff] at hr
    exact part_bad6 g gb base R L c w h hrd hg hgb hbs hr
  · simp only [rdP, if_true, if_false, show ¬ (7 : Nat) = 0 by omega, show ¬ (7 : Nat) = 1 by omega, show ¬ (7 : Nat) = 2 by omega, show ¬ (7 : Nat) = 3 by omega, show ¬ (7 : Nat) = 4 by omega, show ¬ (7 : Nat) = 5 by omega, show ¬ (7 : Nat) = 6 by omega] at hr
    cases hr
  · simp only [rdP, if_true, if_false, show ¬ (8 : Nat) = 0 by omega, show ¬ (8 : Nat) = 1 by omega, show ¬ (8 : Nat) = 2 by omega, show ¬ (8 : Nat) = 3 by omega, show ¬ (8 : Nat) = 4 by omega, show ¬ (8 : Nat) = 5 by omega, show ¬ (8 : Nat) = 6 by omega, show ¬ (8 : Nat) = 7 by omega, Option.map_eq_none_iff] at hr
    exact part_bad8 g gb base R L c w h hrd hg hgb hbs hr
  · exact part_bad9 g gb base R L c w h hrd hg hgb hbs hr

/-- A call being read: i parts are. -/
structure Rc (w w' : World) (g gb b : Nat) (ps : List Nat) (c0 : Cl) (R2 : List Nat) (pa : Option Addr) (n i : Nat) (L : List Value) : Prop where
  le : i ≤ n
  b1 : Bx w' b L
  b2 : Bx w' w.heap.size z41
  ex : ∃ c R', Co w' (b + 1) L c ∧ Rd w' g gb R' ∧ rdA (ps.drop i) c R' = rdA ps c0 R2 ∧ R'.length ≤ 140737488355328
  rp : RP w' (b + 1) pa n ps
  but : But (· = g) w w'
  size : b < w'.heap.size
def RcRel (w : World) (g gb b : Nat) (ps : List Nat) (c0 : Cl) (R2 : List Nat) (pa : Option Addr) (n : Nat) (t : Value) (w' : World) : Prop :=
  ∃ (i : Nat) (L : List Value), t = .int .i64 (i : Int) ∧ Rc w w' g gb b ps c0 R2 pa n i L
/-- Behind a part: the box is written. -/
theorem Rc.next {w w' w4 : World} {g gb b : Nat} {ps : List Nat} {c0 : Cl} {R2 : List Nat} {pa : Option Addr} {n i : Nat} {L L' : List Value} {c' : Cl} {R' : List Nat} (h : Rc w w' g gb b ps c0 R2 pa n i L) (hi : i < n) (hb : But (· = g) w' w4) (hco : Co w4 (b + 1) L' c') (hrd : Rd w4 g gb R')
    (hr : rdA (ps.drop (i + 1)) c' R' = rdA ps c0 R2) (hl : R'.length ≤ 140737488355328) (hg : g < w.heap.size) (hgb : gb < w.heap.size) (hwb : w.heap.size < b) (hll : L.length = 13) : Rc w (w4.setCells b 0 L') g gb b ps c0 R2 pa n (i + 1) L' := by
  have hS : But (· = b) w4 (w4.setCells b 0 L') := setCells_but (S := (· = b)) rfl L' 0 (But.refl _ _)
  have hx : Bx w4 b L := h.b1.but hb (by omega)
  refine ⟨by omega, hx.set (by rw [hco.len, hll]), (h.b2.but hb (by omega)).but hS (by omega), ⟨c', R', hco.but hS (fun k hk e => by omega), hrd.but hS (by omega) (by omega), hr, hl⟩, (h.rp.but hb (fun k hk e => by omega)).but hS (fun k hk e => by omega), (h.but.trans hb).comp hS (fun k hk => .inr (by omega)), ?_⟩
  rw [setCells_size]
  have := hb.size
  have := h.size
  omega
theorem rdP_len {p : Nat} {c c' : Cl} {R R' : List Nat} (hs : ∀ x ∈ R, x < 256) (hp : p < 10) (h : rdP p c R = some (c', R')) : R'.length ≤ R.length := by
  have := congrArg List.length (rdP_some hs hp h).1
  rw [List.length_append] at this
  omega
theorem rdN_len {k m : Nat} {R : List Nat} {v : Nat} {R' : List Nat} (h : rdN k m R = some (v, R')) : R'.length ≤ R.length := by
  unfold rdN at h
  split at h
  · cases h
  split at h
  · cases h
  · simp only [Option.some.injEq, Prod.mk.injEq] at h
    rw [← h.2]
    simp

set_option maxRecDepth 100000 in
set_option maxHeartbeats 4000000 in
theorem readCall_any (g gb : Nat) (R : List Nat) (w : World) (h : Rd w g gb R) (hg : g < w.heap.size) (hgb : gb < w.heap.size) (hl : R.length ≤ 140737488355328) :
    Calls Try.prog 33 #[.pointer (some ⟨g, 0, none⟩)] w fun e w' => ((∃ c R' L, rdC R = some (c, R') ∧ e = .returned (.agg L.toArray) ∧ Co w' w.heap.size L c ∧ Rd w' g gb R') ∨ (rdC R = none ∧ Gave e)) ∧ But (· = g) w w' := by
  have hb0 : Below w.heap.size w (w.alloc (Obj.cells z41.toArray 41)) := below1 _ _
  have h0 : Rd (w.alloc (Obj.cells z41.toArray 41)) g gb R := h.later hb0
  have X2 : Hid (Bx (w.alloc (Obj.cells z41.toArray 41)) w.heap.size z41) := Bx.new w z41 41
  have HB0 := hid hb0
  cases h1 : rdN 1 255 R with
  | none =>
    have hC : Hid (rdC R = none) := by unfold Hid rdC; rw [h1]
    have H1 := int_bad g gb R 1 255 _ h0 (by omega) (by omega) h1
    clear h h0 hb0 h1
    go_enter Try.func33, Try.ntmps33
    go_wp2_with (first | (go_at_call 51; refine H1.mono ?_; rintro e w1 ⟨x, y, rfl, hy, HBT⟩) | (go_at_call 50; refine (must_int_bad _ _ hy _).mono ?_; rintro e w9 ⟨⟨z, rfl⟩, hw9⟩; obtain rfl := hw9.symm))
    exact ⟨rfl, .inr ⟨hC.out, ⟨_, rfl⟩⟩, (But.of HB0.out).trans HBT⟩
  | some x =>
    obtain ⟨op, R1⟩ := x
    have H1 := int_ok g gb R 1 255 _ h0 (by omega) (by omega) h1
    cases h2 : rdN 2 65535 R1 with
    | none =>
      have hC : Hid (rdC R = none) := by unfold Hid rdC; rw [h1]; simp only [h2]
      have H2 : Hid (∀ W, Rd W g gb R1 → _) := fun W hW => int_bad g gb R1 2 65535 W hW (by omega) (by omega) h2
      clear h h0 hb0 h1 h2
      go_enter Try.func33, Try.ntmps33
      go_wp2_with (first | (go_at_call 51; refine (H2.out _ HR1.out).mono ?_; rintro e w2 ⟨x, y, rfl, hy, HBT2⟩) | (go_at_call 51; refine H1.mono ?_; rintro e w1 ⟨rfl, hrd1, HBT⟩; have HR1 := hid hrd1; clear hrd1) | (go_at_call 50; refine (must_int_bad _ _ hy _).mono ?_; rintro e w9 ⟨⟨z, rfl⟩, hw9⟩; obtain rfl := hw9.symm) | (go_at_call 50; refine (must_int _ _).mono ?_; rintro e w9 ⟨rfl, hw9⟩; obtain rfl := hw9.symm))
      exact ⟨rfl, .inr ⟨hC.out, ⟨_, rfl⟩⟩, ((But.of HB0.out).trans HBT).trans HBT2⟩
    | some y =>
      obtain ⟨b, R2⟩ := y
      have hC : Hid (rdC R = rdA (partsL op) (clz op b) R2) := by unfold Hid rdC; rw [h1]; simp only [h2]
      have H2 : Hid (∀ W, Rd W g gb R1 → _) := fun W hW => int_ok g gb R1 2 65535 W hW (by omega) (by omega) h2
      have HL2 : Hid (R2.length ≤ 140737488355328) := by unfold Hid; have := rdN_len h1; have := rdN_len h2; omega
      have HG : Hid (g < w.heap.size ∧ gb < w.heap.size) := ⟨hg, hgb⟩
      clear h h0 hb0 h1 h2 hg hgb hl
      go_enter Try.func33, Try.ntmps33
      go_upto_region 2 with (first | (go_at_call 51; refine (H2.out _ HR1.out).mono ?_; rintro e w2 ⟨rfl, hrd2, HBT2⟩; have HR2 := hid hrd2; clear hrd2 HR1) | (go_at_call 51; refine H1.mono ?_; rintro e w1 ⟨rfl, hrd1, HBT⟩; have HR1 := hid hrd1; clear hrd1) | (go_at_call 50; refine (must_int _ _).mono ?_; rintro e w9 ⟨rfl, hw9⟩; obtain rfl := hw9.symm))
      have hw2 : w.heap.size < w2.heap.size := by have a1 := HBT.size; have a2 := HBT2.size; simp at a1; omega
      have HW2 := hid hw2
      have HBX : Hid (But (· = g) w w2) := ((But.of HB0.out).trans HBT).trans HBT2
      have HX2 : Hid (Bx w2 w.heap.size z41) := (X2.out.but HBT (by have := HG.out; omega)).but HBT2 (by have := HG.out; omega)
      clear H1 H2 HBT HBT2 hw2 X2
      go_upto_region 3 with (first | (go_at_call 60; refine (partsOf_any (op : Int) _).mono ?_; rintro e w4 ⟨pa, n, cp, rfl, hrp, hn5, hb4, _⟩))
      have R0 : Hid (RcRel w g gb w2.heap.size (partsL op) (clz op b) R2 pa n (.int .i64 0) w4) := by
        refine ⟨0, cC (clz op b) Sl.nil Sl.nil, rfl, by omega, ?_, (HX2.out.later (below1 _ _)).later hb4, ⟨clz op b, R2, ?_, (HR2.out.later (below1 _ _)).later hb4, rfl, HL2.out⟩, by simpa using hrp, ((HBX.out.call (below1 _ _)).call hb4), by have := hb4.size; simp at this; omega⟩
        · exact (Bx.new w2 (cC (clz op b) Sl.nil Sl.nil) 41).later hb4
        · exact (Co.zero _ _ _ _).later hb4
      have HN := hid hrp.len
      clear hrp hb4 HX2 HBX HR2 HB0
      go_loopw [21] (RcRel w g gb w2.heap.size (partsL op) (clz op b) R2 pa n) (fun t _ => n - (intOf t).toNat)
      case atStart => exact R0.out
      case round =>
        clear R0
        obtain ⟨i, L, rfl, hrc⟩ := hrel
        have hin := hrc.le
        obtain ⟨c, R', hco, hrd, hra, hrl⟩ := hrc.ex
        have ei : IntKind.i64.wrap ((i : Int) + 1) = (i : Int) + 1 := by rw [IntKind.wrap_i64]; omega
        have HLD := hid (ld41 hrc.b1.range hco.len)
        by_cases hlt : i < n
        · have hdi : decide ((i : Int) < (n : Int)) = true := by simp; omega
          have hiP : i < (partsL op).length := by have := HN.out; omega
          obtain ⟨pb, rfl, hpb, hpc⟩ := hrc.rp.cells i hiP
          have HT : Hid _ := List.drop_eq_getElem_cons hiP
          have hp10 : Hid ((partsL op)[i] < 10) := (parts_ok op).1 _ (List.getElem_mem hiP)
          generalize (partsL op)[i] = p at hpc HT hp10
          cases hpp : rdP p c R' with
          | none =>
            have H5 := part_none p hp10.out g gb (w2.heap.size + 1) R' L c _ hco hrd (by have := HG.out; have := HW2.out; omega) (by have := HG.out; have := HW2.out; omega) hrc.size hpp
            have hC2 : Hid (rdC R = none) := by unfold Hid; rw [hC.out, ← hra, HT.out, rdA, hpp]
            have HBW := hid hrc.but
            clear hrc hco hrd hra hpp
            go_wp2_with (first | ((with_reducible refine ld_arm HLD.out ?_ ?_); (· rfl)) | (go_at_call 62; refine H5.mono ?_; rintro e w5 ⟨⟨x, rfl⟩, HBT⟩))
            exact ⟨rfl, .inr ⟨hC2.out, ⟨_, rfl⟩⟩, HBW.out.trans HBT⟩
          | some z =>
            obtain ⟨c', R3⟩ := z
            have H5 := part_some p hp10.out g gb (w2.heap.size + 1) R' L c _ hco hrd (by have := HG.out; have := HW2.out; omega) (by have := HG.out; have := HW2.out; omega) hrc.size hrl hpp
            have HRA : Hid (rdA ((partsL op).drop (i + 1)) c' R3 = rdA (partsL op) (clz op b) R2) := by unfold Hid; rw [← hra, HT.out, rdA, hpp]
            have HRL : Hid (R3.length ≤ 140737488355328) := by unfold Hid; have := rdP_len hrd.small hp10.out hpp; omega
            have HRC := hid hrc
            have HLL := hid hco.len
            clear hrc hco hrd hra hpp hrl
            go_wp2_with (first | ((with_reducible refine ld_arm HLD.out ?_ ?_); (· rfl)) | (go_at_call 62; refine H5.mono ?_; rintro e w5 ⟨L', rfl, hco5, hrd5, HBT⟩; have HNX := hid (HRC.out.next hlt HBT hco5 hrd5 HRA.out HRL.out HG.out.1 HG.out.2 HW2.out HLL.out); have hl5 := hco5.len; have hst := stc (by rw [← HLL.out]; exact (HRC.out.b1.but HBT (by have := HG.out; have := HW2.out; omega)).there) hl5 hco5.one; clear hco5 hrd5 HBT))
            go_roundw
            case rel => exact ⟨i + 1, L', by go_num, HNX.out⟩
            case measure => simp [intOf]; omega
        · obtain rfl : i = n := by omega
          have hC2 : Hid (rdC R = some (c, R')) := by
            unfold Hid
            rw [hC.out, ← hra, List.drop_of_length_le (by have := HN.out; omega)]
            rfl
          have hll := hco.len
          have hst := stc (n := 13) hrc.b2.there hll hco.one
          have hS : But (· = w.heap.size) wr (wr.setCells w.heap.size 0 L) := setCells_but (S := (· = w.heap.size)) rfl L 0 (But.refl _ _)
          have hlv := lv41 (hrc.b2.set (by rw [hll]; rfl)).range hll
          have HCO : Hid (Co (wr.setCells w.heap.size 0 L) w.heap.size L c) := (hco.but hS (fun k hk e => by have := HW2.out; omega)).mono (by have := HW2.out; omega)
          have HRD : Hid (Rd (wr.setCells w.heap.size 0 L) g gb R') := hrd.but hS (by have := HG.out; omega) (by have := HG.out; omega)
          have HBF : Hid (But (· = g) w (wr.setCells w.heap.size 0 L)) := hrc.but.comp hS (fun k hk => .inr (by omega))
          have HLV := hid hlv
          clear hrc hco hrd hra hS hlv
          go_wp2_with (first | ((with_reducible refine ld_arm HLD.out ?_ ?_); (· rfl)))
          have hlv := HLV.out
          exact bodyPost_ret (v := .agg L.toArray) (by simp [results, Try.results33, asAddr, hlv]) rfl ⟨.inl ⟨c, R', L, hC2.out, rfl, HCO.out, HRD.out⟩, HBF.out⟩
end Go.Proofs.Ytaffgoacbiedlaa
