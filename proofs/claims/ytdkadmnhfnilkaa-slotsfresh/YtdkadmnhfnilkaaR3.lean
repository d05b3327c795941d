import Derived.Test.YtdkadmnhfnilkaaR2
namespace Go.Proofs.Ytdkadmnhfnilkaa
open Go.RowKit
set_option linter.unusedVariables false
set_option linter.unusedSimpArgs false

theorem Cr.later {w w' : World} {k : Nat} {b : Option Addr} {m c : Nat} {M : List Value} (hb : Below w.heap.size w w') (h : Cr w k b m c M) : Cr w' k b m c M := ⟨h.len, h.none_, fun x hx j u hu => cell_later hb (h.cells x hx j u hu), h.one⟩
/-- Behind a Put of the document's that goes through. -/
def Rput (w : World) (g mo : Nat) (a : Option Addr) (E : List (Cp × Int)) (w' : World) : Prop :=
  ∃ a' cap', Rf w' g mo a' cap' E ∧ But (fun k => k = g ∨ Blk a k) w w' ∧ ∀ k, Blk a' k → Blk a k ∨ w.heap.size ≤ k
theorem Rf.append {w w3 w4 : World} {g mo : Nat} {a a' : Option Addr} {cap cap' : Nat} {E : List (Cp × Int)} {y : Cp × Int} (h : Rf w g mo a cap E) (hB : Below w.heap.size w w3) (hG : Gr a a' w3 w4) (hO : w4.ownsRow 0 94 4 (.slice a' (E.length + 1) cap') (E.length + 1) (prs E ++ prs [y])) (hs : E.length + 1 ≤ 512) (hy : y.1.2.1 < B64 ∧ y.1.2.2 < B64) :
    Rput w g mo a (E ++ [y]) (w4.setCell ⟨g, 1, none⟩ (.slice a' (E.length + 1) cap')) := by
  have hlt := h.lt
  have hgn : ¬ Blk a g := fun e => h.ne g e rfl
  have hne : ∀ k, Blk a' k → k ≠ g := fun k hk e => by
    rcases hG.on k hk with h1 | h1
    · exact h.ne k h1 e
    · have := hB.size; omega
  have el : (E ++ [y]).length = E.length + 1 := by simp
  have h3 := h.later hB
  refine ⟨a', cap', ⟨?_, ?_, ?_, hne, by rw [el]; exact hs, fun c hc => ?_⟩, ?_, fun k hk => ?_⟩
  · rw [World.cell?_setCell_other _ _ _ _ (fun e => by cases e)]
    exact cell_but hG.but h3.c0 hgn
  · rw [el]
    exact (h3.c1.but hG.but hgn).put
  · rw [el, prs_append]
    exact own_but (S := (· = g)) ((But.refl (· = g) _).setCell (p := ⟨g, 1, none⟩) (show g = g from rfl) _) hO (fun k hk => hne k (Blk.of.1 hk))
  · rw [List.map_append, List.mem_append] at hc
    rcases hc with hc | hc
    · exact h.ok c hc
    · simp at hc
      subst hc
      exact hy
  · exact (((But.of hB).trans (hG.but.mono (fun k hk => .inr hk))).setCell (p := ⟨g, 1, none⟩) (.inl rfl) _)
  · rcases hG.on k hk with h1 | h1
    · exact .inl h1
    · exact .inr (Nat.le_trans hB.size h1)
set_option maxRecDepth 100000 in
set_option maxHeartbeats 4000000 in
theorem rput_ok {w : World} {g mo : Nat} {a : Option Addr} {cap : Nat} {E : List (Cp × Int)} (h : Rf w g mo a cap E) (o : Int) (hi lo : Nat) (v : Int) (h1 : hi < B64) (h2 : lo < B64) (hc : (o, hi, lo) ∉ E.map Prod.fst) (hfu : E.length ≠ mo) (hs : E.length + 1 ≤ 512) :
    Calls Try.prog 38 #[.pointer (some ⟨g, 0, none⟩), .agg #[.int .i64 o, .int .u64 (hi : Int), .int .u64 (lo : Int)], .int .i64 v] w fun e w' => e = .returned (.int .i64 0) ∧ Rput w g mo a (E ++ [((o, hi, lo), v)]) w' := by
  have HH := hid h
  have HC := hid hc
  clear h hc
  go_enter Try.func38, Try.ntmps38
  go_upto_region 3 with (first | (go_at_call 53; refine (rat_none (HH.out.alloc _) o hi lo HC.out).mono ?_; rintro e w2 ⟨rfl, hb2⟩; have HB2 := hid (below_call (below1 _ _) hb2); have BX := hid ((Bx.new w o hi lo).later hb2); clear hb2))
  have hR := HH.out.later HB2.out
  have x0 := hR.c0
  have x1 := hR.c1.1
  have hne : ((E.length : Int) == (mo : Int)) = false := by simp; omega
  clear hR
  go_quiet (fail)
  go_upto_region 5 with fail
  have HB3 := hid (below_drewN HB2.out nq)
  have BX3 := hid (BX.out.later (below_drewN (Below.refl w2.heap.size w2) nq))
  generalize w2.drewN nq = w3 at *
  clear x0 x1 HB2 BX
  have hR := HH.out.later HB3.out
  have x1 : w3.drew.cell? ⟨g, 1, none⟩ = some (.slice a E.length cap) := hR.c1.1
  have hbA := below1 w3 (Obj.cells #[.int .i64 o, .int .u64 (hi : Int), .int .u64 (lo : Int), .int .i64 v] 94)
  have x2 : (w3.alloc (Obj.cells #[.int .i64 o, .int .u64 (hi : Int), .int .u64 (lo : Int), .int .i64 v] 94)).drew.cell? ⟨g, 1, none⟩ = some (.slice a E.length cap) := (hR.later hbA).c1.1
  have HS0 := hid (show (w3.drew.cell? ⟨w.heap.size, 0, none⟩ = some (.int .i64 o) ∧ w3.drew.cell? ⟨w.heap.size, 1, none⟩ = some (.int .u64 (hi : Int)) ∧ w3.drew.cell? ⟨w.heap.size, 2, none⟩ = some (.int .u64 (lo : Int))) from ⟨BX3.out.c0, BX3.out.c1, BX3.out.c2⟩)
  have hBU : Below w3.heap.size w3 (w3.alloc (Obj.cells #[.int .i64 o, .int .u64 (hi : Int), .int .u64 (lo : Int), .int .i64 v] 94)).drew := hbA.drew
  have BXU := BX3.out.later hBU
  have HS1 := hid (And.intro BXU.c0 (And.intro BXU.c1 BXU.c2))
  obtain ⟨a', cap', w4, hrun, hO4, hG4⟩ := append_k 82 94 _ 4 32 Try.underlying82 info94 rfl (by decide) (by decide) ((hR.later hBU).own) ((cr_pair w3 ((o, hi, lo), v)).later (Below.refl _ _).drew) (Nat.zero_le _) (by omega)
  have hgl := HH.out.lt
  have hnb : ¬ Blk a w.heap.size := fun e => by have := HH.out.blt _ e; omega
  have BXA := BXU.but hG4.but hnb
  have HSA := hid (And.intro BXA.c0 (And.intro BXA.c1 BXA.c2))
  have hwg : w.heap.size ≠ g := by omega
  have BXB := BXA.but (S := (· = g)) ((But.refl (· = g) _).setCell (p := ⟨g, 1, none⟩) (show g = g from rfl) (.slice a' (E.length + 1) cap')) hwg
  have HSB := hid (And.intro BXB.c0 (And.intro BXB.c1 BXB.c2))
  have hgn : ¬ Blk a g := fun e => HH.out.ne g e rfl
  have hL4 := ((hR.later hBU).c1).but hG4.but hgn
  have y1 := hL4.1
  have y2 := hL4.2
  have HFIN := hid (HH.out.append (y := ((o, hi, lo), v)) (below_call HB3.out hBU) hG4 hO4 hs ⟨h1, h2⟩)
  have HRUN := hid hrun
  clear hR hbA hBU BXU hrun hO4 hG4 BXA BXB hL4 BX3
  refine wp_region_held_drew (S := (fun U : World => U.cell? ⟨w.heap.size, 0, none⟩ = some (.int .i64 o) ∧ U.cell? ⟨w.heap.size, 1, none⟩ = some (.int .u64 (hi : Int)) ∧ U.cell? ⟨w.heap.size, 2, none⟩ = some (.int .u64 (lo : Int)))) (by kernel_rfl) (HS0.out) (fun hHeld => ?_)
  refine wpAnyH_norm (l2 := #[false, false, false, false, false, false, false, false, false, false, false, false, false]) (f2 := 13) (by kernel_rfl) (by kernel_rfl) ?_
  refine wpAnyH_take (i := 0) (oi := _) (v := ?_) rfl (by kernel_rfl) (by kernel_rfl) (by kernel_rfl) (fun _ _ _ h => h) (Or.inl ⟨by rfl, ?_⟩) (by assumption) ?_
  rotate_left
  · (intro w hSw; (try dsimp only at hSw); go_simp; try with_reducible rfl)
  simp only [List.getElem_toArray, List.getElem_cons_succ, List.getElem_cons_zero, Act.put, List.setIfInBounds_toArray, List.set_cons_zero, List.set_cons_succ]
  refine wpAnyH_norm (l2 := #[true, false, false, false, false, false, false, false, false, false, false, false, false]) (f2 := 12) (by kernel_rfl) (by kernel_rfl) ?_
  refine wpAnyH_take (i := 1) (oi := _) (v := ?_) rfl (by kernel_rfl) (by kernel_rfl) (by kernel_rfl) (fun _ _ _ h => h) (Or.inl ⟨by rfl, ?_⟩) (by assumption) ?_
  rotate_left
  · (intro w hSw; (try dsimp only at hSw); go_simp; try with_reducible rfl)
  simp only [List.getElem_toArray, List.getElem_cons_succ, List.getElem_cons_zero, Act.put, List.setIfInBounds_toArray, List.set_cons_zero, List.set_cons_succ]
  refine wpAnyH_norm (l2 := #[true, true, false, false, false, false, false, false, false, false, false, false, false]) (f2 := 11) (by kernel_rfl) (by kernel_rfl) ?_
  refine wpAnyH_take (i := 2) (oi := _) (v := ?_) rfl (by kernel_rfl) (by kernel_rfl) (by kernel_rfl) (fun _ _ _ h => h) (Or.inl ⟨by rfl, ?_⟩) (by assumption) ?_
  rotate_left
  · (intro w hSw; (try dsimp only at hSw); go_simp; try with_reducible rfl)
  simp only [List.getElem_toArray, List.getElem_cons_succ, List.getElem_cons_zero, Act.put, List.setIfInBounds_toArray, List.set_cons_zero, List.set_cons_succ]
  refine wpAnyH_norm (l2 := #[true, true, true, false, false, false, false, false, false, false, false, false, false]) (f2 := 10) (by kernel_rfl) (by kernel_rfl) ?_
  refine wpAnyH_take (i := 3) (oi := _) (v := ?_) rfl (by kernel_rfl) (by kernel_rfl) (by kernel_rfl) (fun _ _ _ h => h) (Or.inl ⟨by rfl, ?_⟩) (by assumption) ?_
  rotate_left
  · (intro w hSw; (try dsimp only at hSw); go_simp; try with_reducible rfl)
  simp only [List.getElem_toArray, List.getElem_cons_succ, List.getElem_cons_zero, Act.put, List.setIfInBounds_toArray, List.set_cons_zero, List.set_cons_succ]
  refine wpAnyH_norm (l2 := #[true, true, true, true, false, false, false, false, false, false, false, false, false]) (f2 := 9) (by kernel_rfl) (by kernel_rfl) ?_
  refine wpAnyH_take (i := 5) (oi := _) (v := ?_) rfl (by kernel_rfl) (by kernel_rfl) (by kernel_rfl) (fun _ _ _ h => h) (Or.inl ⟨by rfl, ?_⟩) (by assumption) ?_
  rotate_left
  · (intro w hSw; (try dsimp only at hSw); go_simp; try with_reducible rfl)
  simp only [List.getElem_toArray, List.getElem_cons_succ, List.getElem_cons_zero, Act.put, List.setIfInBounds_toArray, List.set_cons_zero, List.set_cons_succ]
  refine wpAnyH_norm (l2 := #[true, true, true, true, false, true, false, false, false, false, false, false, false]) (f2 := 8) (by kernel_rfl) (by kernel_rfl) ?_
  refine wpAnyH_take (i := 6) (oi := _) (v := ?_) rfl (by kernel_rfl) (by kernel_rfl) (by kernel_rfl) (fun _ _ _ h => h) (Or.inl ⟨by rfl, ?_⟩) (by assumption) ?_
  rotate_left
  · (intro w hSw; (try dsimp only at hSw); go_simp; try with_reducible rfl)
  simp only [List.getElem_toArray, List.getElem_cons_succ, List.getElem_cons_zero, Act.put, List.setIfInBounds_toArray, List.set_cons_zero, List.set_cons_succ]
  refine wpAnyH_norm (l2 := #[true, true, true, true, false, true, true, false, false, false, false, false, false]) (f2 := 7) (by kernel_rfl) (by kernel_rfl) ?_
  refine wpAnyH_take (i := 7) (oi := _) (v := ?_) rfl (by kernel_rfl) (by kernel_rfl) (by kernel_rfl) (fun _ _ _ h => h) (Or.inl ⟨by rfl, ?_⟩) (by assumption) ?_
  rotate_left
  · (intro w hSw; (try dsimp only at hSw); go_simp; try with_reducible rfl)
  simp only [List.getElem_toArray, List.getElem_cons_succ, List.getElem_cons_zero, Act.put, List.setIfInBounds_toArray, List.set_cons_zero, List.set_cons_succ]
  refine wpAnyH_norm (l2 := #[true, true, true, true, false, true, true, true, false, false, false, false, false]) (f2 := 6) (by kernel_rfl) (by kernel_rfl) ?_
  refine wpAnyH_ready (rs := [4, 8]) (by kernel_rfl) (by simp) ?_
  refine AllReadyH.cons rfl (fun K hK => ?_) (AllReadyH.cons rfl (fun K hK => ?_) AllReadyH.nil)
  · go_simp
    refine hK.out _ _ (HS0.out) (fun hHeld => ?_)
    clear hK K
    simp only [List.getElem_toArray, List.getElem_cons_succ, List.getElem_cons_zero, Act.put, List.setIfInBounds_toArray, List.set_cons_zero, List.set_cons_succ]
    refine wpAnyH_norm (l2 := #[true, true, true, true, true, true, true, true, false, false, false, false, false]) (f2 := 5) (by kernel_rfl) (by kernel_rfl) ?_
    refine wpAnyH_ready (rs := [8]) (by kernel_rfl) (by simp) ?_
    refine AllReadyH.cons rfl (fun K hK => ?_) AllReadyH.nil
    go_simp
    refine hK.out _ _ (HS1.out) (fun hHeld => ?_)
    clear hK K
    simp only [List.getElem_toArray, List.getElem_cons_succ, List.getElem_cons_zero, Act.put, List.setIfInBounds_toArray, List.set_cons_zero, List.set_cons_succ]
    refine wpAnyH_norm (l2 := #[true, true, true, true, true, true, true, true, true, false, false, false, false]) (f2 := 4) (by kernel_rfl) (by kernel_rfl) ?_
    refine wpAnyH_ready (rs := [9]) (by kernel_rfl) (by simp) ?_
    refine AllReadyH.cons rfl (fun K hK => ?_) AllReadyH.nil
    refine wp_append_known (.tmp 25) (.tmp 29) 82 rfl _ _ rfl rfl _ w4 HRUN.out ?_
    refine hK.out _ _ (HSA.out) (fun hHeld => ?_)
    clear hK K
    simp only [List.getElem_toArray, List.getElem_cons_succ, List.getElem_cons_zero, Act.put, List.setIfInBounds_toArray, List.set_cons_zero, List.set_cons_succ]
    refine wpAnyH_norm (l2 := #[true, true, true, true, true, true, true, true, true, true, false, false, false]) (f2 := 3) (by kernel_rfl) (by kernel_rfl) ?_
    refine wpAnyH_take (i := 10) (oi := _) (v := ?_) rfl (by kernel_rfl) (by kernel_rfl) (by kernel_rfl) (fun _ _ _ h => h) (Or.inl ⟨by rfl, ?_⟩) (by assumption) ?_
    rotate_left
    · (intro w hSw; (try dsimp only at hSw); go_simp; try with_reducible rfl)
    simp only [List.getElem_toArray, List.getElem_cons_succ, List.getElem_cons_zero, Act.put, List.setIfInBounds_toArray, List.set_cons_zero, List.set_cons_succ]
    refine wpAnyH_norm (l2 := #[true, true, true, true, true, true, true, true, true, true, true, false, false]) (f2 := 2) (by kernel_rfl) (by kernel_rfl) ?_
    refine wpAnyH_take (i := 11) (oi := _) (v := ?_) rfl (by kernel_rfl) (by kernel_rfl) (by kernel_rfl) (fun _ _ _ h => h) (Or.inl ⟨by rfl, ?_⟩) (by assumption) ?_
    rotate_left
    · (intro w hSw; (try dsimp only at hSw); go_simp; try with_reducible rfl)
    simp only [List.getElem_toArray, List.getElem_cons_succ, List.getElem_cons_zero, Act.put, List.setIfInBounds_toArray, List.set_cons_zero, List.set_cons_succ]
    refine wpAnyH_norm (l2 := #[true, true, true, true, true, true, true, true, true, true, true, true, false]) (f2 := 1) (by kernel_rfl) (by kernel_rfl) ?_
    refine wpAnyH_ready (rs := [12]) (by kernel_rfl) (by simp) ?_
    refine AllReadyH.cons rfl (fun K hK => ?_) AllReadyH.nil
    go_simp
    refine hK.out _ _ (HSB.out) (fun hHeld => ?_)
    clear hK K
    simp only [List.getElem_toArray, List.getElem_cons_succ, List.getElem_cons_zero, Act.put, List.setIfInBounds_toArray, List.set_cons_zero, List.set_cons_succ]
    refine wpAnyH_norm (l2 := #[true, true, true, true, true, true, true, true, true, true, true, true, true]) (f2 := 0) (by kernel_rfl) (by kernel_rfl) ?_
    refine wpAnyH_done (by kernel_rfl) ?_ _
    go_wp2
    go_ret
    exact ⟨rfl, HFIN.out⟩
  · go_simp
    refine hK.out _ _ (HS1.out) (fun hHeld => ?_)
    clear hK K
    simp only [List.getElem_toArray, List.getElem_cons_succ, List.getElem_cons_zero, Act.put, List.setIfInBounds_toArray, List.set_cons_zero, List.set_cons_succ]
    refine wpAnyH_norm (l2 := #[true, true, true, true, false, true, true, true, true, false, false, false, false]) (f2 := 5) (by kernel_rfl) (by kernel_rfl) ?_
    refine wpAnyH_ready (rs := [4]) (by kernel_rfl) (by simp) ?_
    refine AllReadyH.cons rfl (fun K hK => ?_) AllReadyH.nil
    go_simp
    refine hK.out _ _ (HS1.out) (fun hHeld => ?_)
    clear hK K
    simp only [List.getElem_toArray, List.getElem_cons_succ, List.getElem_cons_zero, Act.put, List.setIfInBounds_toArray, List.set_cons_zero, List.set_cons_succ]
    refine wpAnyH_norm (l2 := #[true, true, true, true, true, true, true, true, true, false, false, false, false]) (f2 := 4) (by kernel_rfl) (by kernel_rfl) ?_
    refine wpAnyH_ready (rs := [9]) (by kernel_rfl) (by simp) ?_
    refine AllReadyH.cons rfl (fun K hK => ?_) AllReadyH.nil
    refine wp_append_known (.tmp 25) (.tmp 29) 82 rfl _ _ rfl rfl _ w4 HRUN.out ?_
    refine hK.out _ _ (HSA.out) (fun hHeld => ?_)
    clear hK K
    simp only [List.getElem_toArray, List.getElem_cons_succ, List.getElem_cons_zero, Act.put, List.setIfInBounds_toArray, List.set_cons_zero, List.set_cons_succ]
    refine wpAnyH_norm (l2 := #[true, true, true, true, true, true, true, true, true, true, false, false, false]) (f2 := 3) (by kernel_rfl) (by kernel_rfl) ?_
    refine wpAnyH_take (i := 10) (oi := _) (v := ?_) rfl (by kernel_rfl) (by kernel_rfl) (by kernel_rfl) (fun _ _ _ h => h) (Or.inl ⟨by rfl, ?_⟩) (by assumption) ?_
    rotate_left
    · (intro w hSw; (try dsimp only at hSw); go_simp; try with_reducible rfl)
    simp only [List.getElem_toArray, List.getElem_cons_succ, List.getElem_cons_zero, Act.put, List.setIfInBounds_toArray, List.set_cons_zero, List.set_cons_succ]
    refine wpAnyH_norm (l2 := #[true, true, true, true, true, true, true, true, true, true, true, false, false]) (f2 := 2) (by kernel_rfl) (by kernel_rfl) ?_
    refine wpAnyH_take (i := 11) (oi := _) (v := ?_) rfl (by kernel_rfl) (by kernel_rfl) (by kernel_rfl) (fun _ _ _ h => h) (Or.inl ⟨by rfl, ?_⟩) (by assumption) ?_
    rotate_left
    · (intro w hSw; (try dsimp only at hSw); go_simp; try with_reducible rfl)
    simp only [List.getElem_toArray, List.getElem_cons_succ, List.getElem_cons_zero, Act.put, List.setIfInBounds_toArray, List.set_cons_zero, List.set_cons_succ]
    refine wpAnyH_norm (l2 := #[true, true, true, true, true, true, true, true, true, true, true, true, false]) (f2 := 1) (by kernel_rfl) (by kernel_rfl) ?_
    refine wpAnyH_ready (rs := [12]) (by kernel_rfl) (by simp) ?_
    refine AllReadyH.cons rfl (fun K hK => ?_) AllReadyH.nil
    go_simp
    refine hK.out _ _ (HSB.out) (fun hHeld => ?_)
    clear hK K
    simp only [List.getElem_toArray, List.getElem_cons_succ, List.getElem_cons_zero, Act.put, List.setIfInBounds_toArray, List.set_cons_zero, List.set_cons_succ]
    refine wpAnyH_norm (l2 := #[true, true, true, true, true, true, true, true, true, true, true, true, true]) (f2 := 0) (by kernel_rfl) (by kernel_rfl) ?_
    refine wpAnyH_done (by kernel_rfl) ?_ _
    go_wp2
    go_ret
    exact ⟨rfl, HFIN.out⟩
end Go.Proofs.Ytdkadmnhfnilkaa
