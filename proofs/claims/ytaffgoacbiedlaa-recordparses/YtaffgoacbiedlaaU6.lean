import Derived.Test.YtaffgoacbiedlaaU4
namespace Go.Proofs.Ytaffgoacbiedlaa
open Go.RowKit
set_option linter.unusedVariables false
set_option linter.unusedSimpArgs false

def GsRel (w : World) (R : List Nat) (y : Int) (k : Nat) (t : Value) (w' : World) : Prop :=
  ∃ (i : Nat) (x : Option Addr) (c : Nat), i ≤ k ∧ t = .int .i64 (i : Int) ∧ Bx w' (w.heap.size + 1) [.int .i64 9, .int .i64 y, .int .i64 0, .int .i64 0, .int .u64 0, .int .u64 0, .bool false, .int .i64 0, .int .i64 0, .int .i64 0, .slice none 0 0, .int .i64 0, .slice x i c] ∧ Bx w' w.heap.size [.int .i64 0, .int .i64 0, .int .i64 0, .int .i64 0, .int .u64 0, .int .u64 0, .bool false, .int .i64 0, .int .i64 0, .int .i64 0, .slice none 0 0, .int .i64 0, .slice none 0 0] ∧ OI w' (w.heap.size + 2) x i c (gg R i) ∧ Below w.heap.size w w'
set_option maxRecDepth 100000 in
set_option maxHeartbeats 8000000 in
theorem guess9 (a : Option Addr) (len cap : Nat) (R : List Nat) (w : World) (h : Row w a len cap R) (hl : len ≤ 140737488355328) (y : Int) (k : Nat) (h0 : sv (gt R 0 1) = 9) (h1 : sv (gt R 1 2) = y) (h2 : sv (gt R 3 1) = (k : Int)) (hk : k < 256) : Calls Try.prog 42 #[.slice a len cap] w fun e w' => ∃ x c, e = .returned (.agg #[.int .i64 9, .int .i64 y, .int .i64 0, .int .i64 0, .int .u64 0, .int .u64 0, .bool false, .int .i64 0, .int .i64 0, .int .i64 0, .slice none 0 0, .int .i64 0, .slice x k c]) ∧ OI w' w.heap.size x k c (gg R k) ∧ Below w.heap.size w w' := by
  have HR := hid h
  have H0 := hid h0
  have H1 := hid h1
  have HK := hid h2
  have HG : Hid (GsRel w R y k (.int .i64 0) ((w.alloc (Obj.cells #[.int .i64 0, .int .i64 0, .int .i64 0, .int .i64 0, .int .u64 0, .int .u64 0, .bool false, .int .i64 0, .int .i64 0, .int .i64 0, .slice none 0 0, .int .i64 0, .slice none 0 0] 41)).alloc (Obj.cells #[.int .i64 9, .int .i64 y, .int .i64 0, .int .i64 0, .int .u64 0, .int .u64 0, .bool false, .int .i64 0, .int .i64 0, .int .i64 0, .slice none 0 0, .int .i64 0, .slice none 0 0] 41))) := ⟨0, none, 0, by omega, rfl, bx3 w y 9, bx2 w y 9, OI.nil _ _, below2 _ _ _⟩
  clear h h0 h1 h2
  have mk0 := hid True.intro
  go_enter Try.func42, Try.ntmps42
  go_wp2_with (first | (clear mk0; go_at_call 40; refine (get_is a len cap R 0 1 _ (HR.out.later (below1 _ _)) (by omega) (by omega) hl H0.out).mono ?_; rintro e w9 ⟨rfl, hw9⟩; obtain rfl := hw9.symm; have mk1 := hid True.intro) | (clear mk1; go_at_call 40; refine (get_is a len cap R 1 2 _ (HR.out.later (below1 _ _)) (by omega) (by omega) hl H1.out).mono ?_; rintro e w9 ⟨rfl, hw9⟩; obtain rfl := hw9.symm; have mk2 := hid True.intro))
  go_loopw [4] (GsRel w R y k) (fun t _ => k - (intOf t).toNat)
  case atStart => exact HG.out
  case round =>
    clear HG
    obtain ⟨i, x, c, hi, rfl, hX, hY, hO, hB⟩ := hrel
    have ei : IntKind.i64.wrap ((i : Int) + 1) = (i : Int) + 1 := by rw [IntKind.wrap_i64]; omega
    have HBW := hid hB
    by_cases hlt : i < k
    · have hdi : decide ((i : Int) < (k : Int)) = true := by simp; omega
      have e2 : IntKind.i64.wrap (2 * (i : Int)) = 2 * (i : Int) := by rw [IntKind.wrap_i64]; omega
      obtain ⟨J, hJ⟩ : ∃ J : Nat, J = 4 + 2 * i := ⟨_, rfl⟩
      have e4 : IntKind.i64.wrap (4 + 2 * (i : Int)) = (J : Int) := by rw [IntKind.wrap_i64]; omega
      have hq2 : gt R J 2 < 256 ^ 2 := gt_lt HR.out.small J 2
      obtain ⟨q, hq⟩ : ∃ q : Nat, q = gt R J 2 := ⟨_, rfl⟩
      have HQ : Hid (sv (gt R J 2) = (q : Int)) := by unfold Hid; rw [← hq]; exact sv_small (by rw [hq]; omega)
      have HGG : Hid (gg R (i + 1) = gg R i ++ [(q : Int)]) := by unfold Hid; rw [gg_succ, hq, hJ]
      have HRD : Hid (Row wr.drew a len cap R) := HR.out.later hB.drew
      have hX1 : Bx wr.drew (w.heap.size + 1) [.int .i64 9, .int .i64 y, .int .i64 0, .int .i64 0, .int .u64 0, .int .u64 0, .bool false, .int .i64 0, .int .i64 0, .int .i64 0, .slice none 0 0, .int .i64 0, .slice x i c] := hX.later (Below.refl _ _).drew
      have hY1 : Bx wr.drew w.heap.size [.int .i64 0, .int .i64 0, .int .i64 0, .int .i64 0, .int .u64 0, .int .u64 0, .bool false, .int .i64 0, .int .i64 0, .int .i64 0, .slice none 0 0, .int .i64 0, .slice none 0 0] := hY.later (Below.refl _ _).drew
      have hO1 : OI wr.drew (w.heap.size + 2) x i c (gg R i) := hO.later (Below.refl _ _).drew
      have hsz : w.heap.size + 2 ≤ wr.drew.heap.size := by have := hX.lt (by simp); show w.heap.size + 2 ≤ wr.heap.size; omega
      obtain ⟨x2, c2, w4, hrun, hO2, hgr⟩ := append_int (b := (q : Int)) hO1 hsz (by omega)
      have hX2 := hX1.but hgr.but (fun hk => by have := hO1.blk _ hk; omega)
      have hY2 := hY1.but hgr.but (fun hk => by have := hO1.blk _ hk; omega)
      have hB2 : Below w.heap.size w w4 := But.below hB.drew hgr.but (fun j hj => by have := hO1.blk _ hj; omega)
      have z12 : wr.drew.cell? ⟨w.heap.size + 1, 12, none⟩ = some (.slice x i c) := hX1.cell 12 rfl
      have z12a : (wr.drew.alloc (Obj.cells #[Value.int .i64 (q : Int)] 3)).cell? ⟨w.heap.size + 1, 12, none⟩ = some (.slice x i c) := (hX1.later (below1 _ _)).cell 12 rfl
      have z12c : (wr.alloc (Obj.cells #[Value.int .i64 (q : Int)] 3)).cell? ⟨w.heap.size + 1, 12, none⟩ = some (.slice x i c) := (hX.later (below1 _ _)).cell 12 rfl
      have z12b : w4.cell? ⟨w.heap.size + 1, 12, none⟩ = some (.slice x i c) := hX2.cell 12 rfl
      have f12 : w4.frozen? ⟨w.heap.size + 1, 12, none⟩ = false := (hX2.there 12 (by simp)).2
      have hbs : But (· = w.heap.size + 1) w4 (w4.setCell ⟨w.heap.size + 1, 12, none⟩ (.slice x2 (i + 1) c2)) := setCells_but (S := (· = w.heap.size + 1)) (b := w.heap.size + 1) rfl [.slice x2 (i + 1) c2] 12 (But.refl _ w4)
      have HREL : Hid (GsRel w R y k (.int .i64 ((i : Int) + 1)) (w4.setCell ⟨w.heap.size + 1, 12, none⟩ (.slice x2 (i + 1) c2))) := ⟨i + 1, x2, c2, by omega, by go_num, Bx.put hX2 (j := 12) (by simp) _, Bx.off hY2 (by omega) _, by rw [HGG.out]; exact hO2.but hbs (fun j hj e => by have := hO2.blk j hj; omega), Below.setCell hB2 (Nat.le_succ _) _⟩
      have HRUN := hid hrun
      have HJ2 : Hid (J ≤ 1000) := by unfold Hid; omega
      clear hX hY hO hB hX1 hY1 hO1 hX2 hY2 hB2 hO2 hgr hrun hbs hq hJ hq2
      go_upto_region 27 with (go_at_call 40; refine (get_is a len cap R 3 1 _ (HR.out.later HBW.out) (by omega) (by omega) hl HK.out).mono ?_; rintro e w9 ⟨rfl, hw9⟩; obtain rfl := hw9.symm)
      refine wp_region_held_drew (S := (fun _ : World => True)) (by kernel_rfl) trivial (fun hHeld => ?_)
      refine wpAnyH_norm (l2 := #[false, false, false, false, false, false, false, false, false, false, false]) (f2 := 11) (by kernel_rfl) (by kernel_rfl) ?_
      refine wpAnyH_take (i := 0) (oi := _) (v := ?_) rfl (by kernel_rfl) (by kernel_rfl) (by kernel_rfl) (fun _ _ _ h => h) (Or.inl ⟨by rfl, ?_⟩) (by assumption) ?_
      rotate_left
      · (intro w hSw; (try dsimp only at hSw); go_simp; try with_reducible rfl)
      simp only [List.getElem_toArray, List.getElem_cons_succ, List.getElem_cons_zero, Act.put, List.setIfInBounds_toArray, List.set_cons_zero, List.set_cons_succ]
      refine wpAnyH_norm (l2 := #[true, false, false, false, false, false, false, false, false, false, false]) (f2 := 10) (by kernel_rfl) (by kernel_rfl) ?_
      refine wpAnyH_take (i := 2) (oi := _) (v := ?_) rfl (by kernel_rfl) (by kernel_rfl) (by kernel_rfl) (fun _ _ _ h => h) (Or.inl ⟨by rfl, ?_⟩) (by assumption) ?_
      rotate_left
      · (intro w hSw; (try dsimp only at hSw); go_simp; try with_reducible rfl)
      simp only [List.getElem_toArray, List.getElem_cons_succ, List.getElem_cons_zero, Act.put, List.setIfInBounds_toArray, List.set_cons_zero, List.set_cons_succ]
      refine wpAnyH_norm (l2 := #[true, false, true, false, false, false, false, false, false, false, false]) (f2 := 9) (by kernel_rfl) (by kernel_rfl) ?_
      refine wpAnyH_take (i := 3) (oi := _) (v := ?_) rfl (by kernel_rfl) (by kernel_rfl) (by kernel_rfl) (fun _ _ _ h => h) (Or.inl ⟨by rfl, ?_⟩) (by assumption) ?_
      rotate_left
      · (intro w hSw; (try dsimp only at hSw); go_simp; try with_reducible rfl)
      simp only [List.getElem_toArray, List.getElem_cons_succ, List.getElem_cons_zero, Act.put, List.setIfInBounds_toArray, List.set_cons_zero, List.set_cons_succ]
      refine wpAnyH_norm (l2 := #[true, false, true, true, false, false, false, false, false, false, false]) (f2 := 8) (by kernel_rfl) (by kernel_rfl) ?_
      refine wpAnyH_take (i := 4) (oi := _) (v := ?_) rfl (by kernel_rfl) (by kernel_rfl) (by kernel_rfl) (fun _ _ _ h => h) (Or.inl ⟨by rfl, ?_⟩) (by assumption) ?_
      rotate_left
      · (intro w hSw; (try dsimp only at hSw); go_simp; try with_reducible rfl)
      simp only [List.getElem_toArray, List.getElem_cons_succ, List.getElem_cons_zero, Act.put, List.setIfInBounds_toArray, List.set_cons_zero, List.set_cons_succ]
      refine wpAnyH_norm (l2 := #[true, false, true, true, true, false, false, false, false, false, false]) (f2 := 7) (by kernel_rfl) (by kernel_rfl) ?_
      refine wpAnyH_take (i := 5) (oi := _) (v := ?_) rfl (by kernel_rfl) (by kernel_rfl) (by kernel_rfl) (fun _ _ _ h => h) (Or.inl ⟨by rfl, ?_⟩) (by assumption) ?_
      rotate_left
      · (intro w hSw; (try dsimp only at hSw); go_simp; try with_reducible rfl)
      simp only [List.getElem_toArray, List.getElem_cons_succ, List.getElem_cons_zero, Act.put, List.setIfInBounds_toArray, List.set_cons_zero, List.set_cons_succ]
      refine wpAnyH_norm (l2 := #[true, false, true, true, true, true, false, false, false, false, false]) (f2 := 6) (by kernel_rfl) (by kernel_rfl) ?_
      refine wpAnyH_ready (rs := [1, 6]) (by kernel_rfl) (by simp) ?_
      refine AllReadyH.cons rfl (fun K hK => ?_) (AllReadyH.cons rfl (fun K hK => ?_) AllReadyH.nil)
      · go_simp
        refine hK.out _ _ (trivial) (fun hHeld => ?_)
        clear hK K
        simp only [List.getElem_toArray, List.getElem_cons_succ, List.getElem_cons_zero, Act.put, List.setIfInBounds_toArray, List.set_cons_zero, List.set_cons_succ]
        refine wpAnyH_norm (l2 := #[true, true, true, true, true, true, false, false, false, false, false]) (f2 := 5) (by kernel_rfl) (by kernel_rfl) ?_
        refine wpAnyH_ready (rs := [6]) (by kernel_rfl) (by simp) ?_
        refine AllReadyH.cons rfl (fun K hK => ?_) AllReadyH.nil
        go_simp
        go_wp2_with (first | (go_at_call 40; refine (get_is a len cap R J 2 _ HRD.out HJ2.out (by omega) hl HQ.out).mono ?_; rintro e w9 ⟨rfl, hw9⟩; obtain rfl := hw9.symm))
        refine hK.out _ _ (trivial) (fun hHeld => ?_)
        clear hK K
        simp only [List.getElem_toArray, List.getElem_cons_succ, List.getElem_cons_zero, Act.put, List.setIfInBounds_toArray, List.set_cons_zero, List.set_cons_succ]
        refine wpAnyH_norm (l2 := #[true, true, true, true, true, true, true, false, false, false, false]) (f2 := 4) (by kernel_rfl) (by kernel_rfl) ?_
        refine wpAnyH_ready (rs := [7]) (by kernel_rfl) (by simp) ?_
        refine AllReadyH.cons rfl (fun K hK => ?_) AllReadyH.nil
        go_simp
        refine hK.out _ _ (trivial) (fun hHeld => ?_)
        clear hK K
        simp only [List.getElem_toArray, List.getElem_cons_succ, List.getElem_cons_zero, Act.put, List.setIfInBounds_toArray, List.set_cons_zero, List.set_cons_succ]
        refine wpAnyH_norm (l2 := #[true, true, true, true, true, true, true, true, false, false, false]) (f2 := 3) (by kernel_rfl) (by kernel_rfl) ?_
        refine wpAnyH_ready (rs := [8]) (by kernel_rfl) (by simp) ?_
        refine AllReadyH.cons rfl (fun K hK => ?_) AllReadyH.nil
        refine wp_append_known (.tmp 82) (.tmp 88) 39 rfl _ _ rfl rfl _ w4 HRUN.out ?_
        refine hK.out _ _ (trivial) (fun hHeld => ?_)
        clear hK K
        simp only [List.getElem_toArray, List.getElem_cons_succ, List.getElem_cons_zero, Act.put, List.setIfInBounds_toArray, List.set_cons_zero, List.set_cons_succ]
        refine wpAnyH_norm (l2 := #[true, true, true, true, true, true, true, true, true, false, false]) (f2 := 2) (by kernel_rfl) (by kernel_rfl) ?_
        refine wpAnyH_take (i := 9) (oi := _) (v := ?_) rfl (by kernel_rfl) (by kernel_rfl) (by kernel_rfl) (fun _ _ _ h => h) (Or.inl ⟨by rfl, ?_⟩) (by assumption) ?_
        rotate_left
        · (intro w hSw; (try dsimp only at hSw); go_simp; try with_reducible rfl)
        simp only [List.getElem_toArray, List.getElem_cons_succ, List.getElem_cons_zero, Act.put, List.setIfInBounds_toArray, List.set_cons_zero, List.set_cons_succ]
        refine wpAnyH_norm (l2 := #[true, true, true, true, true, true, true, true, true, true, false]) (f2 := 1) (by kernel_rfl) (by kernel_rfl) ?_
        refine wpAnyH_ready (rs := [10]) (by kernel_rfl) (by simp) ?_
        refine AllReadyH.cons rfl (fun K hK => ?_) AllReadyH.nil
        go_simp
        refine hK.out _ _ (trivial) (fun hHeld => ?_)
        clear hK K
        simp only [List.getElem_toArray, List.getElem_cons_succ, List.getElem_cons_zero, Act.put, List.setIfInBounds_toArray, List.set_cons_zero, List.set_cons_succ]
        refine wpAnyH_norm (l2 := #[true, true, true, true, true, true, true, true, true, true, true]) (f2 := 0) (by kernel_rfl) (by kernel_rfl) ?_
        refine wpAnyH_done (by kernel_rfl) ?_ _
        go_wp2
        go_roundw
        case rel => exact HREL.out
        case measure => simp [intOf]; omega
      · go_simp
        go_wp2_with (first | (go_at_call 40; refine (get_is a len cap R J 2 _ HRD.out HJ2.out (by omega) hl HQ.out).mono ?_; rintro e w9 ⟨rfl, hw9⟩; obtain rfl := hw9.symm))
        refine hK.out _ _ (trivial) (fun hHeld => ?_)
        clear hK K
        simp only [List.getElem_toArray, List.getElem_cons_succ, List.getElem_cons_zero, Act.put, List.setIfInBounds_toArray, List.set_cons_zero, List.set_cons_succ]
        refine wpAnyH_norm (l2 := #[true, false, true, true, true, true, true, false, false, false, false]) (f2 := 5) (by kernel_rfl) (by kernel_rfl) ?_
        refine wpAnyH_ready (rs := [1, 7]) (by kernel_rfl) (by simp) ?_
        refine AllReadyH.cons rfl (fun K hK => ?_) (AllReadyH.cons rfl (fun K hK => ?_) AllReadyH.nil)
        · go_simp
          refine hK.out _ _ (trivial) (fun hHeld => ?_)
          clear hK K
          simp only [List.getElem_toArray, List.getElem_cons_succ, List.getElem_cons_zero, Act.put, List.setIfInBounds_toArray, List.set_cons_zero, List.set_cons_succ]
          refine wpAnyH_norm (l2 := #[true, true, true, true, true, true, true, false, false, false, false]) (f2 := 4) (by kernel_rfl) (by kernel_rfl) ?_
          refine wpAnyH_ready (rs := [7]) (by kernel_rfl) (by simp) ?_
          refine AllReadyH.cons rfl (fun K hK => ?_) AllReadyH.nil
          go_simp
          refine hK.out _ _ (trivial) (fun hHeld => ?_)
          clear hK K
          simp only [List.getElem_toArray, List.getElem_cons_succ, List.getElem_cons_zero, Act.put, List.setIfInBounds_toArray, List.set_cons_zero, List.set_cons_succ]
          refine wpAnyH_norm (l2 := #[true, true, true, true, true, true, true, true, false, false, false]) (f2 := 3) (by kernel_rfl) (by kernel_rfl) ?_
          refine wpAnyH_ready (rs := [8]) (by kernel_rfl) (by simp) ?_
          refine AllReadyH.cons rfl (fun K hK => ?_) AllReadyH.nil
          refine wp_append_known (.tmp 82) (.tmp 88) 39 rfl _ _ rfl rfl _ w4 HRUN.out ?_
          refine hK.out _ _ (trivial) (fun hHeld => ?_)
          clear hK K
          simp only [List.getElem_toArray, List.getElem_cons_succ, List.getElem_cons_zero, Act.put, List.setIfInBounds_toArray, List.set_cons_zero, List.set_cons_succ]
          refine wpAnyH_norm (l2 := #[true, true, true, true, true, true, true, true, true, false, false]) (f2 := 2) (by kernel_rfl) (by kernel_rfl) ?_
          refine wpAnyH_take (i := 9) (oi := _) (v := ?_) rfl (by kernel_rfl) (by kernel_rfl) (by kernel_rfl) (fun _ _ _ h => h) (Or.inl ⟨by rfl, ?_⟩) (by assumption) ?_
          rotate_left
          · (intro w hSw; (try dsimp only at hSw); go_simp; try with_reducible rfl)
          simp only [List.getElem_toArray, List.getElem_cons_succ, List.getElem_cons_zero, Act.put, List.setIfInBounds_toArray, List.set_cons_zero, List.set_cons_succ]
          refine wpAnyH_norm (l2 := #[true, true, true, true, true, true, true, true, true, true, false]) (f2 := 1) (by kernel_rfl) (by kernel_rfl) ?_
          refine wpAnyH_ready (rs := [10]) (by kernel_rfl) (by simp) ?_
          refine AllReadyH.cons rfl (fun K hK => ?_) AllReadyH.nil
          go_simp
          refine hK.out _ _ (trivial) (fun hHeld => ?_)
          clear hK K
          simp only [List.getElem_toArray, List.getElem_cons_succ, List.getElem_cons_zero, Act.put, List.setIfInBounds_toArray, List.set_cons_zero, List.set_cons_succ]
          refine wpAnyH_norm (l2 := #[true, true, true, true, true, true, true, true, true, true, true]) (f2 := 0) (by kernel_rfl) (by kernel_rfl) ?_
          refine wpAnyH_done (by kernel_rfl) ?_ _
          go_wp2
          go_roundw
          case rel => exact HREL.out
          case measure => simp [intOf]; omega
        · go_simp
          refine hK.out _ _ (trivial) (fun hHeld => ?_)
          clear hK K
          simp only [List.getElem_toArray, List.getElem_cons_succ, List.getElem_cons_zero, Act.put, List.setIfInBounds_toArray, List.set_cons_zero, List.set_cons_succ]
          refine wpAnyH_norm (l2 := #[true, false, true, true, true, true, true, true, false, false, false]) (f2 := 4) (by kernel_rfl) (by kernel_rfl) ?_
          refine wpAnyH_ready (rs := [1]) (by kernel_rfl) (by simp) ?_
          refine AllReadyH.cons rfl (fun K hK => ?_) AllReadyH.nil
          go_simp
          refine hK.out _ _ (trivial) (fun hHeld => ?_)
          clear hK K
          simp only [List.getElem_toArray, List.getElem_cons_succ, List.getElem_cons_zero, Act.put, List.setIfInBounds_toArray, List.set_cons_zero, List.set_cons_succ]
          refine wpAnyH_norm (l2 := #[true, true, true, true, true, true, true, true, false, false, false]) (f2 := 3) (by kernel_rfl) (by kernel_rfl) ?_
          refine wpAnyH_ready (rs := [8]) (by kernel_rfl) (by simp) ?_
          refine AllReadyH.cons rfl (fun K hK => ?_) AllReadyH.nil
          refine wp_append_known (.tmp 82) (.tmp 88) 39 rfl _ _ rfl rfl _ w4 HRUN.out ?_
          refine hK.out _ _ (trivial) (fun hHeld => ?_)
          clear hK K
          simp only [List.getElem_toArray, List.getElem_cons_succ, List.getElem_cons_zero, Act.put, List.setIfInBounds_toArray, List.set_cons_zero, List.set_cons_succ]
          refine wpAnyH_norm (l2 := #[true, true, true, true, true, true, true, true, true, false, false]) (f2 := 2) (by kernel_rfl) (by kernel_rfl) ?_
          refine wpAnyH_take (i := 9) (oi := _) (v := ?_) rfl (by kernel_rfl) (by kernel_rfl) (by kernel_rfl) (fun _ _ _ h => h) (Or.inl ⟨by rfl, ?_⟩) (by assumption) ?_
          rotate_left
          · (intro w hSw; (try dsimp only at hSw); go_simp; try with_reducible rfl)
          simp only [List.getElem_toArray, List.getElem_cons_succ, List.getElem_cons_zero, Act.put, List.setIfInBounds_toArray, List.set_cons_zero, List.set_cons_succ]
          refine wpAnyH_norm (l2 := #[true, true, true, true, true, true, true, true, true, true, false]) (f2 := 1) (by kernel_rfl) (by kernel_rfl) ?_
          refine wpAnyH_ready (rs := [10]) (by kernel_rfl) (by simp) ?_
          refine AllReadyH.cons rfl (fun K hK => ?_) AllReadyH.nil
          go_simp
          refine hK.out _ _ (trivial) (fun hHeld => ?_)
          clear hK K
          simp only [List.getElem_toArray, List.getElem_cons_succ, List.getElem_cons_zero, Act.put, List.setIfInBounds_toArray, List.set_cons_zero, List.set_cons_succ]
          refine wpAnyH_norm (l2 := #[true, true, true, true, true, true, true, true, true, true, true]) (f2 := 0) (by kernel_rfl) (by kernel_rfl) ?_
          refine wpAnyH_done (by kernel_rfl) ?_ _
          go_wp2
          go_roundw
          case rel => exact HREL.out
          case measure => simp [intOf]; omega
    · obtain rfl : i = k := by omega
      have hsz := hX.lt (by simp)
      go_upto_region 28 with (go_at_call 40; refine (get_is a len cap R 3 1 _ (HR.out.later HBW.out) (by omega) (by omega) hl HK.out).mono ?_; rintro e w9 ⟨rfl, hw9⟩; obtain rfl := hw9.symm)
      obtain ⟨M, hM⟩ : ∃ M : List Value, M = [.int .i64 9, .int .i64 y, .int .i64 0, .int .i64 0, .int .u64 0, .int .u64 0, .bool false, .int .i64 0, .int .i64 0, .int .i64 0, .slice none 0 0, .int .i64 0, .slice x i c] := ⟨_, rfl⟩
      rw [← hM] at hX
      have hml : M.length = 13 := by rw [hM]; rfl
      have hmo : ∀ v ∈ M, v.oneCell' = true := by rw [hM]; simp [Value.oneCell']
      have HLD := hid (ld41 hX.range hml)
      have hst := stc (n := 13) hY.there hml hmo
      have HLV := hid (lv41 (hY.set (M := M) hml).range hml)
      have hbs : But (· = w.heap.size) wr (wr.setCells w.heap.size 0 M) := setCells_but (S := (· = w.heap.size)) rfl M 0 (But.refl _ _)
      have HB4 : Hid (Below w.heap.size w (wr.setCells w.heap.size 0 M)) := But.below hB hbs (fun k hk => by omega)
      have HRI : Hid (OI (wr.setCells w.heap.size 0 M) w.heap.size x i c (gg R i)) := (hO.but hbs (fun j hj e => by have := hO.blk j hj; omega)).mono (by omega)
      have HM := hid hM
      clear hX hY hO hB hmo hM hbs
      go_wp2_with (first | ((with_reducible refine ld_arm HLD.out ?_ ?_); (· rfl)))
      refine bodyPost_ret (v := .agg M.toArray) ?_ rfl ⟨x, c, by rw [HM.out], HRI.out, HB4.out⟩
      have hlv := HLV.out
      simp [results, Try.results42, asAddr, hlv]
end Go.Proofs.Ytaffgoacbiedlaa
