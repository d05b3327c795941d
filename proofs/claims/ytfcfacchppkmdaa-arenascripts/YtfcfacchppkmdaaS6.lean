import Derived.Test.YtfcfacchppkmdaaS5
namespace Go.Proofs.Ytfcfacchppkmdaa
open Go.RowKit
set_option linter.unusedVariables false
set_option linter.unusedSimpArgs false

/-- How a Write ends. -/
def WritesTo (n : Nat) (t : Nat → Bool) (B C : Nat → Nat → Nat) (pg of : Int) (md : Nat) (D : List Nat) (E : Int) (B' C' : Nat → Nat → Nat) : Prop :=
  (E = 0 ∧ ∃ p off : Nat, pg = (p : Int) ∧ of = (off : Int) ∧ t p = true ∧ off + md ≤ 64 ∧ B' = wrB B p off D ∧ C' = wrB C p off D) ∨ (E ≠ 0 ∧ lookE n t pg of (md : Int) = E ∧ B' = B ∧ C' = C)
theorem writes_to (n : Nat) (t : Nat → Bool) (B C : Nat → Nat → Nat) (pg of : Int) (md : Nat) (D : List Nat) : ∃ E B' C', WritesTo n t B C pg of md D E B' C' := by
  by_cases h : lookE n t pg of (md : Int) = 0
  · obtain ⟨p, off, m, rfl, rfl, hm, htp, hom⟩ := lookE_ok h
    obtain rfl : m = md := by omega
    exact ⟨_, _, _, .inl ⟨rfl, p, off, rfl, rfl, htp, hom, rfl, rfl⟩⟩
  · exact ⟨_, _, _, .inr ⟨h, rfl, rfl, rfl⟩⟩
theorem write_code (g pb n : Nat) (t : Nat → Bool) (B C : Nat → Nat → Nat) (pg of : Int) (a : Option Addr) (m cap : Nat) (D : List Nat) (E : Int) (B' C' : Nat → Nat → Nat) (w : World) (h : Arn w g pb n t B) (ho : -9223372036854775808 ≤ of ∧ of < 9223372036854775808) (hD : ∀ x ∈ D, x < 256) (hR : Row w a m cap (u8s D)) (hE : WritesTo n t B C pg of m D E B' C') :
    Calls Try.prog 12 #[.pointer (some ⟨g, 0, none⟩), .int .i64 pg, .int .i64 of, .slice a m cap] w fun e w' => e = .returned (.int .i64 E) ∧ Arn w' g pb n t B' ∧ But (· = pb) w w' := by
  rcases hE with ⟨rfl, p, off, rfl, rfl, htp, hom, rfl, rfl⟩ | ⟨h1, h2, rfl, rfl⟩
  · exact write_ok g pb n t B p off a m cap D w h htp hom hD hR
  · refine (write_bad g pb n t B' pg of a m cap w h ho E h2 h1).mono ?_
    rintro e w' ⟨rfl, rfl⟩
    exact ⟨rfl, h, But.refl _ _⟩
theorem rwrite_code (r rb n : Nat) (t : Nat → Bool) (B C : Nat → Nat → Nat) (pg of : Int) (a : Option Addr) (m cap : Nat) (D : List Nat) (E : Int) (B' C' : Nat → Nat → Nat) (w : World) (h : Ref w r rb n t C) (hD : ∀ x ∈ D, x < 256) (hR : Row w a m cap (u8s D)) (hap : 0 < m → ∀ k, Blk a k → k ≠ rb) (hE : WritesTo n t B C pg of m D E B' C') :
    Calls Try.prog 32 #[.pointer (some ⟨r, 0, none⟩), .int .i64 pg, .int .i64 of, .slice a m cap] w fun e w' => e = .returned (.int .i64 E) ∧ Ref w' r rb n t C' ∧ But (· = rb) w w' := by
  rcases hE with ⟨rfl, p, off, rfl, rfl, htp, hom, rfl, rfl⟩ | ⟨h1, h2, rfl, rfl⟩
  · exact rwrite_ok r rb n t C p off a m cap D w h htp hom hD hR hap
  · refine (rwrite_bad r rb n t C' pg of a m cap w h E h2 h1).mono ?_
    rintro e w' ⟨rfl, rfl⟩
    exact ⟨rfl, h, But.refl _ _⟩
theorem WritesTo.same {n : Nat} {t : Nat → Bool} {B C : Nat → Nat → Nat} {pg of : Int} {md : Nat} {D : List Nat} {E : Int} {B' C' : Nat → Nat → Nat} (hE : WritesTo n t B C pg of md D E B' C') (h : ∀ i j, t i = true → j < 64 → C i j = B i j) : ∀ i j, t i = true → j < 64 → C' i j = B' i j := by
  rcases hE with ⟨_, p, off, _, _, _, _, rfl, rfl⟩ | ⟨_, _, rfl, rfl⟩
  · intro i j hi hj
    unfold wrB
    split
    · rfl
    · exact h i j hi hj
  · exact h
theorem lf_small (D : List Nat) (n : Nat) (h : ∀ x ∈ D, x < 256) : ∀ x ∈ fl (lf D n (n + 120)) (n + 120), x < 256 := by
  intro x hx
  simp only [fl, List.mem_map, List.mem_range] at hx
  obtain ⟨j, hj, rfl⟩ := hx
  unfold lf
  rw [if_pos hj]
  split
  · exact getD_small h j
  · omega
theorem lf_head (D : List Nat) (n : Nat) (h : D.length = n) : fl (lf D n (n + 120)) n = D := by
  apply List.ext_getElem?
  intro j
  by_cases hj : j < n
  · have h1 : (fl (lf D n (n + 120)) n)[j]? = some (lf D n (n + 120) j) := by simp [fl, hj]
    rw [h1, lf, if_pos (by omega), if_pos hj, List.getD_eq_getElem?_getD, List.getElem?_eq_getElem (by omega)]
    rfl
  · rw [List.getElem?_eq_none (by rw [fl_length]; omega), List.getElem?_eq_none (by omega)]
theorem Cel.spot {w : World} {b m : Nat} {f : Nat → Nat} (h : Cel w b m f) : Spot w b 0 m := fun j hj => ⟨_, by rw [Nat.zero_add]; exact h j hj⟩
set_option maxRecDepth 100000 in
set_option maxHeartbeats 4000000 in
theorem step_4 (g pb r rb n : Nat) (t : Nat → Bool) (B C : Nat → Nat → Nat) (o : Ops) (w : World) (h : Duo w g pb r rb n t B C) (hO : OpOk w g pb r rb o) (hk : o.kd = 4) :
    Calls Try.prog 20 #[.pointer (some ⟨g, 0, none⟩), .pointer (some ⟨r, 0, none⟩), .agg (opCells o)] w fun e w' => e = .returned (.bool true) ∧ Left g pb r rb n w w' := by
  obtain ⟨X, hX⟩ : ∃ X, X = opCells o := ⟨_, rfl⟩
  have hbx := Bx.new w o
  rw [← hX] at hbx ⊢
  have k1 : (o.kd == 1) = false := by simp [hk]
  have k2 : (o.kd == 2) = false := by simp [hk]
  have k3 : (o.kd == 3) = false := by simp [hk]
  have k4 : (o.kd == 4) = true := by simp [hk]
  have hB1 : Below w.heap.size w (w.alloc (.cells X 51)) := below1 _ _
  have H := hid (h.later hB1)
  have HL := hid h.lt
  have HB := hid hB1
  have x0 := hbx.c0
  have x1 := hbx.c1
  have x2 := hbx.c2
  have x5 := hbx.c5
  have HRD := hid (hO.rd.later hB1)
  have HAD := hid hO.ad
  have hbig := hO.hd
  have ho := hO.ho
  have HSM := hid hO.small
  have HBN : Hid (¬ Ours g pb r rb w.heap.size) := hid (lt_of_ours h)
  clear h hX hbx hB1 hk hO
  obtain ⟨pg, hpg⟩ : ∃ p, p = o.pg := ⟨_, rfl⟩
  obtain ⟨of, hof⟩ : ∃ p, p = o.of := ⟨_, rfl⟩
  obtain ⟨da, hda⟩ : ∃ da, da = o.da := ⟨_, rfl⟩
  obtain ⟨md, hmd⟩ : ∃ md, md = o.md := ⟨_, rfl⟩
  obtain ⟨cd, hcd⟩ : ∃ cd, cd = o.cd := ⟨_, rfl⟩
  obtain ⟨D, hD⟩ : ∃ D, D = o.D := ⟨_, rfl⟩
  rw [← hpg] at x1
  rw [← hof] at x2 ho
  rw [← hda, ← hmd, ← hcd] at x5 HRD
  rw [← hD] at HRD HSM
  rw [← hda, ← hmd] at HAD
  rw [← hmd] at hbig
  clear hpg hof hda hmd hcd hD
  have HOF := hid ho
  clear ho
  obtain ⟨E, B', C', hE⟩ := writes_to n t B C pg of md D
  have HE := hid hE
  have hdl : D.length = md := by have := HRD.out.len; rwa [u8s_length] at this
  have HDL := hid hdl
  clear hE hdl
  go_enter Try.func20, Try.ntmps20
  go_upto_region 31 with fail
  generalize w.alloc (.cells X 51) = w1 at H HB x0 x1 x2 x5 HRD ⊢
  have HWL : Hid (w.heap.size < w1.heap.size) := hid (World.block_lt_of_cell? _ _ x0)
  go_upto_region 32 with (first | (go_at_call 18; refine (lent_any da md cd D _ HRD.out hbig).mono ?_; rintro e w2 ⟨lb, rfl, C2, hlb1, hlb2, b2⟩))
  have HLB : Hid (¬ Ours g pb r rb lb ∧ w.heap.size ≤ lb) := hid ⟨fun e => by have h1 := HL.out _ e; have h2 := HWL.out; omega, by have h2 := HWL.out; omega⟩
  replace H := hid (H.out.later b2)
  replace HB := hid (below_call HB.out b2)
  replace HRD := hid (HRD.out.later b2)
  have HC := hid C2
  have HRM : Hid (Row w2 (some ⟨lb, 0, none⟩) md (md + 120) (u8s D)) := hid (by
    have := C2.row (n := md) (cap := md + 120) (by omega) (by omega)
    rwa [lf_head D md HDL.out] at this)
  have HS1 : Hid (∀ W, But (Ours g pb r rb) w2 W → (W.cell? ⟨w.heap.size, 1, none⟩ = some (.int .i64 pg) ∧ W.cell? ⟨w.heap.size, 2, none⟩ = some (.int .i64 of) ∧ W.cell? ⟨w.heap.size, 5, none⟩ = some (.slice da md cd)) ∧ But (Ours g pb r rb) w2 W) :=
    hid (fun W hW => ⟨⟨cell_but hW (cell_later b2 x1) HBN.out, cell_but hW (cell_later b2 x2) HBN.out, cell_but hW (cell_later b2 x5) HBN.out⟩, hW⟩)
  clear b2 C2 x0 x1 x2 x5 hlb1 hlb2
  have hc1 : (md : Int) ≤ ((md + 120 : Nat) : Int) := by omega
  have hc0 : (0 : Int) ≤ (md : Int) := by omega
  have hc2 : (md : Int) ≤ (md : Int) + 120 := by omega
  go_region_held3 (fun W => (W.cell? ⟨w.heap.size, 1, none⟩ = some (.int .i64 pg) ∧ W.cell? ⟨w.heap.size, 2, none⟩ = some (.int .i64 of) ∧ W.cell? ⟨w.heap.size, 5, none⟩ = some (.slice da md cd)) ∧ But (Ours g pb r rb) w2 W) (first | exact HS1.out _ (But.of (Below.refl _ _).drew) | exact HS1.out _ hB3.out) (first | (go_at_call 12; refine (write_code g pb n t B C pg of _ md (md + 120) D E B' C' _ (H.out.p.later (Below.refl _ _).drew) HOF.out HSM.out (HRM.out.later (Below.refl _ _).drew) HE.out).mono ?_; rintro e w3 ⟨rfl, A3, b3⟩; have hB3 := hid ((But.of (S := Ours g pb r rb) (Below.refl w2.heap.size w2).drew).trans (b3.mono (fun k hk => .inr (.inl hk))))))
  have HQ3 := hid (H.out.q.later (Below.refl _ _).drew |>.but b3 (fun e => H.out.ap.2.2.1 e.symm) (fun e => H.out.ap.2.2.2 e.symm))
  have HA3 := hid A3
  have HX3 := hid (HS1.out _ hB3.out).1
  replace HRD := hid (HRD.out.but0 hB3.out (fun h0 k hk e => HAD.out h0 k hk e))
  replace HC := hid (HC.out.but hB3.out HLB.out.1)
  have HBt := hid ((But.of (S := Ours g pb r rb) HB.out).trans hB3.out)
  have HAPD := hid H.out.ap
  have HSAME := hid H.out.same
  obtain ⟨x1, x2, x5⟩ := HX3.out
  clear A3 b3 hB3 HS1 HRM H HB HX3
  go_upto_region 34 with (first | (go_at_call 32; refine (rwrite_code r rb n t B C pg of da md cd D E B' C' _ HQ3.out HSM.out HRD.out (fun h0 k hk e => HAD.out h0 k hk (.inr (.inr (.inr e)))) HE.out).mono ?_; rintro e w4 ⟨rfl, A4, b4⟩))
  have HD : Hid (Duo w4 g pb r rb n t B' C') := hid ⟨HA3.out.but b4 HAPD.out.2.1 HAPD.out.2.2.2, A4, HE.out.same HSAME.out, HAPD.out⟩
  have hOu : ∀ k, k = rb → Ours g pb r rb k := fun k hk => .inr (.inr (.inr hk))
  replace x5 := cell_but b4 x5 (fun e => HBN.out (hOu _ e))
  replace HRD := hid (HRD.out.but0 b4 (fun h0 k hk e => HAD.out h0 k hk (hOu _ e)))
  replace HC := hid (HC.out.but b4 (fun e => HLB.out.1 (hOu _ e)))
  replace HBt := hid (HBt.out.trans (b4.mono hOu))
  have HLS := hid (lf_small D md HSM.out)
  obtain ⟨ls, hls⟩ : ∃ ls, ls = strB (fl (lf D md (md + 120)) (md + 120)) := ⟨_, rfl⟩
  have HLS2 := hid hls
  have HS : Hid (∀ W, Below w4.heap.size w4 W → (W.cell? ⟨w.heap.size, 5, none⟩ = some (.slice da md cd) ∧ (convert 33 9 (.slice (some ⟨lb, 0, none⟩) (md + 120) (md + 120))).run Try.prog W = .ok (.string ls) W) ∧ Below w4.heap.size w4 W) :=
    hid (fun W hW => ⟨⟨cell_later hW x5, by rw [hls]; exact ((HC.out.later hW).row (n := md + 120) (cap := md + 120) (Nat.le_refl _) (Nat.le_refl _)).conv HLS.out⟩, hW⟩)
  clear A4 b4 hOu x1 x2 x5 HA3 HQ3 HAPD HSAME HE hls
  refine wp_region_held_drew (S := fun W => (W.cell? ⟨w.heap.size, 5, none⟩ = some (.slice da md cd) ∧ (convert 33 9 (.slice (some ⟨lb, 0, none⟩) (md + 120) (md + 120))).run Try.prog W = .ok (.string ls) W) ∧ Below w4.heap.size w4 W) (by kernel_rfl) (HS.out _ (Below.refl _ _).drew) (fun hHeld => ?_)
  refine wpAnyH_norm (l2 := #[false, false, false, false, false, false, false, false, false, false, false, false, false, false]) (f2 := 14) (by kernel_rfl) (by kernel_rfl) ?_
  refine wpAnyH_take (i := 0) (oi := _) (v := ?_) rfl (by kernel_rfl) (by kernel_rfl) (by kernel_rfl) (fun _ _ _ h => h) (Or.inl ⟨by rfl, ?_⟩) (by assumption) ?_
  rotate_left
  · (intro w hSw; (try dsimp only at hSw); go_simp; try with_reducible rfl)
  simp only [List.getElem_toArray, List.getElem_cons_succ, List.getElem_cons_zero, Act.put, List.setIfInBounds_toArray, List.set_cons_zero, List.set_cons_succ]
  refine wpAnyH_norm (l2 := #[true, false, false, false, false, false, false, false, false, false, false, false, false, false]) (f2 := 13) (by kernel_rfl) (by kernel_rfl) ?_
  refine wpAnyH_take (i := 2) (oi := _) (v := ?_) rfl (by kernel_rfl) (by kernel_rfl) (by kernel_rfl) (fun _ _ _ h => h) (Or.inl ⟨by rfl, ?_⟩) (by assumption) ?_
  rotate_left
  · (intro w hSw; (try dsimp only at hSw); go_simp; try with_reducible rfl)
  simp only [List.getElem_toArray, List.getElem_cons_succ, List.getElem_cons_zero, Act.put, List.setIfInBounds_toArray, List.set_cons_zero, List.set_cons_succ]
  refine wpAnyH_norm (l2 := #[true, false, true, false, false, false, false, false, false, false, false, false, false, false]) (f2 := 12) (by kernel_rfl) (by kernel_rfl) ?_
  refine wpAnyH_ready (rs := [1]) (by kernel_rfl) (by simp) ?_
  refine AllReadyH.cons rfl (fun K hK => ?_) AllReadyH.nil
  go_simp
  go_wp2_with (first | (go_at_call 8; refine (num_any _ _).mono ?_; rintro e w5 ⟨rfl, hw⟩; obtain rfl := hw.symm))
  refine hK.out _ _ (HS.out _ (Below.refl _ _).drew) (fun hHeld => ?_)
  clear hK K
  simp only [List.getElem_toArray, List.getElem_cons_succ, List.getElem_cons_zero, Act.put, List.setIfInBounds_toArray, List.set_cons_zero, List.set_cons_succ]
  refine wpAnyH_norm (l2 := #[true, true, true, false, false, false, false, false, false, false, false, false, false, false]) (f2 := 11) (by kernel_rfl) (by kernel_rfl) ?_
  refine wpAnyH_take (i := 3) (oi := _) (v := ?_) rfl (by kernel_rfl) (by kernel_rfl) (by kernel_rfl) (fun _ _ _ h => h) (Or.inl ⟨by rfl, ?_⟩) (by assumption) ?_
  rotate_left
  · (intro w hSw; (try dsimp only at hSw); go_simp; try with_reducible rfl)
  simp only [List.getElem_toArray, List.getElem_cons_succ, List.getElem_cons_zero, Act.put, List.setIfInBounds_toArray, List.set_cons_zero, List.set_cons_succ]
  refine wpAnyH_norm (l2 := #[true, true, true, true, false, false, false, false, false, false, false, false, false, false]) (f2 := 10) (by kernel_rfl) (by kernel_rfl) ?_
  refine wpAnyH_take (i := 4) (oi := _) (v := ?_) rfl (by kernel_rfl) (by kernel_rfl) (by kernel_rfl) (fun _ _ _ h => h) (Or.inl ⟨by rfl, ?_⟩) (by assumption) ?_
  rotate_left
  · (intro w hSw; (try dsimp only at hSw); go_simp; try with_reducible rfl)
  simp only [List.getElem_toArray, List.getElem_cons_succ, List.getElem_cons_zero, Act.put, List.setIfInBounds_toArray, List.set_cons_zero, List.set_cons_succ]
  refine wpAnyH_norm (l2 := #[true, true, true, true, true, false, false, false, false, false, false, false, false, false]) (f2 := 9) (by kernel_rfl) (by kernel_rfl) ?_
  refine wpAnyH_take (i := 5) (oi := _) (v := ?_) rfl (by kernel_rfl) (by kernel_rfl) (by kernel_rfl) (fun _ _ _ h => h) (Or.inl ⟨by rfl, ?_⟩) (by assumption) ?_
  rotate_left
  · (intro w hSw; (try dsimp only at hSw); go_simp; try with_reducible rfl)
  simp only [List.getElem_toArray, List.getElem_cons_succ, List.getElem_cons_zero, Act.put, List.setIfInBounds_toArray, List.set_cons_zero, List.set_cons_succ]
  refine wpAnyH_norm (l2 := #[true, true, true, true, true, true, false, false, false, false, false, false, false, false]) (f2 := 8) (by kernel_rfl) (by kernel_rfl) ?_
  refine wpAnyH_take (i := 6) (oi := _) (v := ?_) rfl (by kernel_rfl) (by kernel_rfl) (by kernel_rfl) (fun _ _ _ h => h) (Or.inl ⟨by rfl, ?_⟩) (by assumption) ?_
  rotate_left
  · (intro w hSw; (try dsimp only at hSw); go_simp; try with_reducible rfl)
  simp only [List.getElem_toArray, List.getElem_cons_succ, List.getElem_cons_zero, Act.put, List.setIfInBounds_toArray, List.set_cons_zero, List.set_cons_succ]
  refine wpAnyH_norm (l2 := #[true, true, true, true, true, true, true, false, false, false, false, false, false, false]) (f2 := 7) (by kernel_rfl) (by kernel_rfl) ?_
  refine wpAnyH_take (i := 7) (oi := _) (v := ?_) rfl (by kernel_rfl) (by kernel_rfl) (by kernel_rfl) (fun _ _ _ h => h) (Or.inl ⟨by rfl, ?_⟩) (by assumption) ?_
  rotate_left
  · (intro w hSw; (try dsimp only at hSw); go_simp; try with_reducible rfl)
  simp only [List.getElem_toArray, List.getElem_cons_succ, List.getElem_cons_zero, Act.put, List.setIfInBounds_toArray, List.set_cons_zero, List.set_cons_succ]
  refine wpAnyH_norm (l2 := #[true, true, true, true, true, true, true, true, false, false, false, false, false, false]) (f2 := 6) (by kernel_rfl) (by kernel_rfl) ?_
  refine wpAnyH_take (i := 8) (oi := _) (v := ?_) rfl (by kernel_rfl) (by kernel_rfl) (by kernel_rfl) (fun _ _ _ h => h) (Or.inl ⟨by rfl, ?_⟩) (by assumption) ?_
  rotate_left
  · (intro w hSw; (try dsimp only at hSw); go_simp; try with_reducible rfl)
  simp only [List.getElem_toArray, List.getElem_cons_succ, List.getElem_cons_zero, Act.put, List.setIfInBounds_toArray, List.set_cons_zero, List.set_cons_succ]
  refine wpAnyH_norm (l2 := #[true, true, true, true, true, true, true, true, true, false, false, false, false, false]) (f2 := 5) (by kernel_rfl) (by kernel_rfl) ?_
  refine wpAnyH_ready (rs := [9]) (by kernel_rfl) (by simp) ?_
  refine AllReadyH.cons rfl (fun K hK => ?_) AllReadyH.nil
  go_simp
  go_wp2_with (first | (go_at_call 18; refine (lent_any da md cd D _ (HRD.out.later (Below.refl _ _).drew) hbig).mono ?_; rintro e w6 ⟨lb2, rfl, C6, hl6, hl6b, b6⟩; have hB6 := hid (below_call (Below.refl w4.heap.size w4).drew b6); have cv6 := (C6.row (n := md + 120) (cap := md + 120) (Nat.le_refl _) (Nat.le_refl _)).conv HLS.out; rw [← HLS2.out] at cv6))
  refine hK.out _ _ (HS.out _ hB6.out) (fun hHeld => ?_)
  clear hK K
  simp only [List.getElem_toArray, List.getElem_cons_succ, List.getElem_cons_zero, Act.put, List.setIfInBounds_toArray, List.set_cons_zero, List.set_cons_succ]
  refine wpAnyH_norm (l2 := #[true, true, true, true, true, true, true, true, true, true, false, false, false, false]) (f2 := 4) (by kernel_rfl) (by kernel_rfl) ?_
  refine wpAnyH_ready (rs := [10]) (by kernel_rfl) (by simp) ?_
  refine AllReadyH.cons rfl (fun K hK => ?_) AllReadyH.nil
  go_simp
  refine hK.out _ _ (HS.out _ hB6.out) (fun hHeld => ?_)
  clear hK K
  simp only [List.getElem_toArray, List.getElem_cons_succ, List.getElem_cons_zero, Act.put, List.setIfInBounds_toArray, List.set_cons_zero, List.set_cons_succ]
  refine wpAnyH_norm (l2 := #[true, true, true, true, true, true, true, true, true, true, true, false, false, false]) (f2 := 3) (by kernel_rfl) (by kernel_rfl) ?_
  refine wpAnyH_take (i := 11) (oi := _) (v := ?_) rfl (by kernel_rfl) (by kernel_rfl) (by kernel_rfl) (fun _ _ _ h => h) (Or.inl ⟨by rfl, ?_⟩) (by assumption) ?_
  rotate_left
  · (intro w hSw; (try dsimp only at hSw); go_simp; try with_reducible rfl)
  simp only [List.getElem_toArray, List.getElem_cons_succ, List.getElem_cons_zero, Act.put, List.setIfInBounds_toArray, List.set_cons_zero, List.set_cons_succ]
  refine wpAnyH_norm (l2 := #[true, true, true, true, true, true, true, true, true, true, true, true, false, false]) (f2 := 2) (by kernel_rfl) (by kernel_rfl) ?_
  refine wpAnyH_take (i := 12) (oi := _) (v := ?_) rfl (by kernel_rfl) (by kernel_rfl) (by kernel_rfl) (fun _ _ _ h => h) (Or.inl ⟨by rfl, ?_⟩) (by assumption) ?_
  rotate_left
  · (intro w hSw; (try dsimp only at hSw); go_simp; try with_reducible rfl)
  simp only [List.getElem_toArray, List.getElem_cons_succ, List.getElem_cons_zero, Act.put, List.setIfInBounds_toArray, List.set_cons_zero, List.set_cons_succ]
  refine wpAnyH_norm (l2 := #[true, true, true, true, true, true, true, true, true, true, true, true, true, false]) (f2 := 1) (by kernel_rfl) (by kernel_rfl) ?_
  refine wpAnyH_take (i := 13) (oi := _) (v := ?_) rfl (by kernel_rfl) (by kernel_rfl) (by kernel_rfl) (fun _ _ _ h => h) (Or.inl ⟨by rfl, ?_⟩) (by assumption) ?_
  rotate_left
  · (intro w hSw; (try dsimp only at hSw); go_simp; try with_reducible rfl)
  simp only [List.getElem_toArray, List.getElem_cons_succ, List.getElem_cons_zero, Act.put, List.setIfInBounds_toArray, List.set_cons_zero, List.set_cons_succ]
  refine wpAnyH_norm (l2 := #[true, true, true, true, true, true, true, true, true, true, true, true, true, true]) (f2 := 0) (by kernel_rfl) (by kernel_rfl) ?_
  refine wpAnyH_done (by kernel_rfl) ?_ _
  replace HD := hid (HD.out.later hB6.out)
  replace HBt := hid (HBt.out.call hB6.out)
  have HSP := hid (HC.out.later hB6.out).spot
  clear hB6 cv6 C6 hl6 hl6b b6 HC HRD HS
  go_upto_region 36 with fail
  go_loopw [28] (OvRel w6 lb 0 (md + 120)) (fun k _ => md + 120 - (intOf k).toNat)
  case atStart => exact ⟨0, rfl, Nat.zero_le _, HSP.out, But.refl _ _⟩
  case round =>
    obtain ⟨i, rfl, hi, hS, hB⟩ := hrel
    have HS := hid hS
    have HBi := hid hB
    clear hS hB
    by_cases hlt : i < md + 120
    · have hd : decide ((i : Int) < ((md + 120 : Nat) : Int)) = true := decide_eq_true (by omega)
      obtain ⟨v, hv⟩ := HS.out i hlt
      have HS2 := hid (HS.out.put (u := .int .u8 238) hlt)
      have HB2 := hid (HBi.out.setCell (p := ⟨lb, 0 + i, none⟩) (show lb = lb from rfl) (.int .u8 238))
      rw [Nat.zero_add] at HS2 HB2 hv
      have v1 := hv.1
      have v2 := hv.2
      clear hv
      go_wp2
      exact ⟨⟨i + 1, rfl, by omega, HS2.out, HB2.out⟩, by simp [intOf]; omega⟩
    · obtain rfl : md + 120 = i := by omega
      have HD2 := hid (HD.out.but HBi.out (fun k hk e => HLB.out.1 (by rw [← e]; exact hk)))
      have HB2 := hid (HBt.out.comp HBi.out (fun k hk => .inr (by have := HLB.out.2; omega)))
      have hd : decide (((md + 120 : Nat) : Int) < ((md + 120 : Nat) : Int)) = false := by simp
      go_wp2
      go_ret
      exact ⟨rfl, ⟨_, _, _, HD2.out⟩, HB2.out⟩
end Go.Proofs.Ytfcfacchppkmdaa
