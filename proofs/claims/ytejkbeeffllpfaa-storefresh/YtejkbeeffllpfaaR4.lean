import Derived.Test.YtejkbeeffllpfaaR3
namespace Go.Proofs.Ytejkbeeffllpfaa
open Go.RowKit
set_option linter.unusedVariables false
set_option linter.unusedSimpArgs false

theorem Rf.create {w1 U w4 : World} {base r room n : Nat} {nx : Int} {V : List (Int × List Nat)} {G : Int → Nat} {a a' : Option Addr} {cap cap' k : Nat} {col : Nat → Nat} (h : Rf w1 base r room n nx V G a cap col) (hBU : Below w1.heap.size w1 U) (hUS : U.heap.size = w1.heap.size + 2) (hUZ : ∀ j, j < k → Lies U ⟨w1.heap.size, j, none⟩ (.int .u8 0)) (hG : Gr a a' U w4)
    (hO : w4.ownsRow base 92 2 (.slice a' (V.length + 1) cap') (V.length + 1) (rcs G V ++ [.int .i64 nx, .slice (some ⟨w1.heap.size, 0, none⟩) k k])) (hk : k ≤ 4096) (hnx : nx ≤ 4611686018427387904) (hroom : V.length < room) :
    Rf ((w4.setCell ⟨r, 2, none⟩ (.slice a' (V.length + 1) cap')).setCell ⟨r, 3, none⟩ (.int .i64 (nx + 1))) base r room n (nx + 1) (V ++ [(nx, List.replicate k 0)]) (newG G nx w1.heap.size) a' cap' (fun j => if j = w1.heap.size then 10 + nx.toNat else if w1.heap.size ≤ j ∧ j < w4.heap.size then 2 else col j) := by
  have hr2 : ∀ k, Blk a k → ¬ k = r := fun k hk e => by
    have h1 := h.k2 k hk
    rw [e, h.k1] at h1
    omega
  have hrl := h.lt r (by rw [h.k1]; decide)
  have hU := h.later hBU
  have hs4 := hG.but.size
  have hra : ¬ Blk a r := fun e => hr2 r e rfl
  generalize hW : (w4.setCell ⟨r, 2, none⟩ (.slice a' (V.length + 1) cap')).setCell ⟨r, 3, none⟩ (.int .i64 (nx + 1)) = W
  have b4 : But (· = r) w4 W := by
    rw [← hW]
    exact But.setCell (S := (· = r)) (But.setCell (S := (· = r)) (But.refl _ _) (p := ⟨r, 2, none⟩) (show r = r from rfl) _) (p := ⟨r, 3, none⟩) (show r = r from rfl) _
  have hin : ∀ j, col j ≠ 0 → (if j = w1.heap.size then 10 + nx.toNat else if w1.heap.size ≤ j ∧ j < w4.heap.size then 2 else col j) = col j := fun j hj => by
    have := h.lt j hj
    rw [if_neg (by omega), if_neg (by omega)]
  have hnx1 := h.nx1
  have hGo : ∀ p ∈ V, newG G nx w1.heap.size p.1 = G p.1 := fun p hp => by
    unfold newG
    rw [if_neg (by have := h.ids p hp; omega)]
  have hGn : newG G nx w1.heap.size nx = w1.heap.size := by simp [newG]
  have hmem : ∀ p ∈ V ++ [(nx, List.replicate k 0)], p ∈ V ∨ p = (nx, List.replicate k 0) := fun p hp => by simpa using hp
  have q0 := (hU.c0).but hG.but hra
  have q1 := (hU.c1).but hG.but hra
  have q2 := (hU.c2).but hG.but hra
  have q3 := (hU.c3).but hG.but hra
  have hcolG : ∀ p ∈ V, ¬ Blk a (G p.1) := fun p hp e => by
    have h1 := h.k2 _ e
    rw [h.k3 p hp] at h1
    omega
  have hGr : ∀ p ∈ V, ¬ G p.1 = r := fun p hp e => by
    have h1 := h.k3 p hp
    rw [e, h.k1] at h1
    omega
  refine ⟨?_, ?_, ?_, ?_, ?_, fun p hp => ?_, ?_, fun j hj => ?_, fun p hp => ?_, fun j hj => ?_, fun j hj => ?_, ?_, ?_, fun p hp => ?_, by omega, ⟨by simp; omega, h.rm.2⟩, h.nn, fun p hp => ?_, fun p hp => ?_⟩
  · rw [← hW]; exact (q0.other (by simp)).other (by simp)
  · rw [← hW]; exact (q1.other (by simp)).other (by simp)
  · rw [← hW]
    have e : (V ++ [(nx, List.replicate k 0)]).length = V.length + 1 := by simp
    rw [e]
    exact q2.put.other (by simp)
  · rw [← hW]; exact (q3.other (by simp)).put
  · have e : (V ++ [(nx, List.replicate k 0)]).length = V.length + 1 := by simp
    rw [e, rcs_append, rcs_congr (G := newG G nx w1.heap.size) (G' := G) hGo]
    have e2 : rcs (newG G nx w1.heap.size) [(nx, List.replicate k 0)] = [.int .i64 nx, .slice (some ⟨w1.heap.size, 0, none⟩) k k] := by simp [rcs, hGn]
    rw [e2]
    refine own_but b4 hO (fun j hj e3 => ?_)
    rcases hG.on j (Blk.of.1 hj) with h1 | h1
    · exact hr2 j h1 e3
    · omega
  · rcases hmem p hp with h1 | rfl
    · rw [hGo p h1]
      exact ((hU.cel p h1).but hG.but (hcolG p h1)).but b4 (hGr p h1)
    · rw [hGn]
      simp only [List.length_replicate]
      intro j hj
      have e : (List.replicate k 0 : List Nat).getD j 0 = 0 := by simp [List.getD_eq_getElem?_getD, hj]
      simp only [e]
      refine ((hUZ j hj).but hG.but (fun e2 => ?_)).but b4 (fun e2 => ?_)
      · have := h.lt _ (by rw [h.k2 _ e2]; decide)
        simp only at this
        omega
      · simp only at e2
        omega
  · rw [hin r (by rw [h.k1]; decide)]
    exact h.k1
  · rcases hG.on j hj with h1 | h1
    · rw [hin j (by rw [h.k2 j h1]; decide)]
      exact h.k2 j h1
    · rw [if_neg (by omega), if_pos ⟨by omega, (own_block hO j (Blk.of.2 hj)).2⟩]
  · rcases hmem p hp with h1 | rfl
    · rw [hGo p h1, hin _ (by rw [h.k3 p h1]; omega)]
      exact h.k3 p h1
    · rw [hGn, if_pos rfl]
  · refine Nat.lt_of_lt_of_le ?_ b4.size
    by_cases e1 : j = w1.heap.size
    · omega
    · rw [if_neg e1] at hj
      by_cases e2 : w1.heap.size ≤ j ∧ j < w4.heap.size
      · exact e2.2
      · rw [if_neg e2] at hj
        have := h.lt j hj
        omega
  · have hb := h.hb
    by_cases e1 : j = w1.heap.size
    · omega
    · rw [if_neg e1] at hj
      by_cases e2 : w1.heap.size ≤ j ∧ j < w4.heap.size
      · omega
      · rw [if_neg e2] at hj
        exact h.ge j hj
  · have := h.hb
    have := b4.size
    omega
  · rw [List.pairwise_append]
    refine ⟨h.rise, by simp, fun p hp q hq => ?_⟩
    simp only [List.mem_singleton] at hq
    subst hq
    exact (h.ids p hp).2
  · rcases hmem p hp with h1 | rfl
    · have := h.ids p h1
      omega
    · simp only
      omega
  · rcases hmem p hp with h1 | rfl
    · exact h.big p h1
    · simpa using hk
  · rcases hmem p hp with h1 | rfl
    · exact h.small p h1
    · intro x hx
      have := List.eq_of_mem_replicate hx
      omega
set_option maxRecDepth 100000 in
set_option maxHeartbeats 2000000 in
theorem rcreate_ok (base r room n : Nat) (nx : Int) (V : List (Int × List Nat)) (G : Int → Nat) (a : Option Addr) (cap : Nat) (col : Nat → Nat) (k : Nat) (w : World) (h : Rf w base r room n nx V G a cap col) (hE : mayV room n nx V (k : Int) = 0) :
    Calls Try.prog 36 #[.pointer (some ⟨r, 0, none⟩), .int .i64 (k : Int)] w fun e w' => ∃ G' a' cap' col', e = .returned (.tuple #[.int .i64 nx, .int .i64 0]) ∧ Rf w' base r room n (nx + 1) (V ++ [(nx, List.replicate k 0)]) G' a' cap' col' ∧ (∀ j, col' j ≠ 0 → col j ≠ 0 ∨ w.heap.size ≤ j) ∧ But (fun j => col j ≠ 0) w w' := by
  have H := hid h
  have HE := hid hE
  have hk : k ≤ 4096 := by
    unfold mayV at hE
    split at hE <;> omega
  obtain ⟨Z, hZ, hmk⟩ := make_zeros k (by omega)
  have hlim : V.length < room ∧ nx ≤ 4611686018427387904 := by
    unfold mayV at hE
    repeat' split at hE
    · omega
    · omega
    · omega
    · omega
  have HRO := hid hlim.1
  have HNX := hid hlim.2
  clear h hE hlim
  go_enter Try.func36, Try.ntmps36
  go_upto_region 4 with (first | (go_at_call 42; refine (rmay_any base r room n nx V G a cap col (k : Int) _ H.out).mono ?_; rintro e w1 ⟨rfl, d, hw⟩; rw [HE.out]; obtain rfl := hw))
  have H1 := hid (H.out.later (below_drewN (Below.refl _ _) d))
  generalize hw1 : w.drewN d = w1 at *
  have x2 := H1.out.c2.1
  have x3 := H1.out.c3.1
  have x2f := H1.out.c2.2
  have x3f := H1.out.c3.2
  have hba := below1 w1 (Obj.cells Z 5)
  have hbb := below2 w1 (Obj.cells Z 5) (Obj.cells #[Value.int .i64 nx, Value.slice (some ⟨w1.heap.size, 0, none⟩) k k] 92)
  have y2 := cell_later hba x2
  have y3 := cell_later hba x3
  have z2 := cell_later hbb x2
  have z3 := cell_later hbb x3
  obtain ⟨U, hU⟩ : ∃ U, U = ((w1.alloc (Obj.cells Z 5)).alloc (Obj.cells #[Value.int .i64 nx, Value.slice (some ⟨w1.heap.size, 0, none⟩) k k] 92)).drew := ⟨_, rfl⟩
  have HBU : Hid (Below w1.heap.size w1 U) := hid (by rw [hU]; exact hbb.drew)
  have HUC : Hid (∀ j v, [Value.int .i64 nx, Value.slice (some ⟨w1.heap.size, 0, none⟩) k k][j]? = some v → Lies U ⟨w1.heap.size + 1, j, none⟩ v) := hid (fun j v hv => by
    rw [hU]
    have := lies_new (w1.alloc (Obj.cells Z 5)) #[Value.int .i64 nx, Value.slice (some ⟨w1.heap.size, 0, none⟩) k k] 92 j v (by simpa using hv)
    rw [World.size_alloc] at this
    exact this)
  have HUZ : Hid (∀ j, j < k → Lies U ⟨w1.heap.size, j, none⟩ (.int .u8 0)) := hid (fun j hj => by
    rw [hU]
    have h1 := lies_new w1 Z 5 j (.int .u8 0) (by rw [← Array.getElem?_toList, hZ]; simp [u8s, hj])
    exact h1.later (below1 _ _).drew)
  have HUS : Hid (U.heap.size = w1.heap.size + 2) := hid (by rw [hU]; simp)
  have hrm := H1.out.rm
  obtain ⟨a', cap', w4, hrun, hO4, hG4⟩ := append_gen2 (own_below HBU.out H1.out.own) (b := some ⟨w1.heap.size + 1, 0, none⟩) (m := 1) (c := 1) (M := [Value.int .i64 nx, Value.slice (some ⟨w1.heap.size, 0, none⟩) k k]) rfl (fun e => by cases e) (fun x hx j v hv => by
    cases hx
    rw [addr_add0]
    exact (HUC.out j v hv).1) (fun v hv => by
    simp only [List.mem_cons, List.not_mem_nil, or_false] at hv
    rcases hv with rfl | rfl <;> rfl) (by have := H1.out.hb; have := HUS.out; omega) (by omega)
  have HO4 := hid hO4
  have HG4 := hid hG4
  have hr2 : ∀ k, Blk a k → ¬ k = r := fun k hk e => by
    have h1 := H1.out.k2 k hk
    rw [e, H1.out.k1] at h1
    omega
  have v2 := (H1.out.c2.later HBU.out).but hG4.but (fun e => hr2 _ e rfl)
  have v3 := (H1.out.c3.later HBU.out).but hG4.but (fun e => hr2 _ e rfl)
  have v2a := v2.1
  have v2b := v2.2
  have v3a := v3.1
  have v3b := v3.2
  have hwr : IntKind.i64.wrap (nx + 1) = nx + 1 := by have := H1.out.nx1; rw [IntKind.wrap_i64]; omega
  have hwr2 : IntKind.i64.wrap (nx + 1 - 1) = nx := by have := H1.out.nx1; rw [IntKind.wrap_i64]; omega
  have hwr3 : wrap64 nx = nx := by have := H1.out.nx1; unfold wrap64; omega
  rw [hU] at hrun
  have HRUN := hid hrun
  have x2d : w1.drew.cell? ⟨r, 2, none⟩ = some (.slice a V.length cap) := x2
  have x3d : w1.drew.cell? ⟨r, 3, none⟩ = some (.int .i64 nx) := x3
  have y2d : (w1.alloc (Obj.cells Z 5)).drew.cell? ⟨r, 2, none⟩ = some (.slice a V.length cap) := y2
  have y3d : (w1.alloc (Obj.cells Z 5)).drew.cell? ⟨r, 3, none⟩ = some (.int .i64 nx) := y3
  clear hba hbb hU hO4 hG4 v2 v3 hrm hrun
  refine wp_region_held_drew (S := fun _ => True) (by kernel_rfl) (trivial) (fun hHeld => ?_)
  refine wpAnyH_norm (l2 := #[false, false, false, false, false, false, false, false, false, false, false, false, false, false, false, false, false]) (f2 := 17) (by kernel_rfl) (by kernel_rfl) ?_
  refine wpAnyH_take (i := 0) (oi := _) (v := ?_) rfl (by kernel_rfl) (by kernel_rfl) (by kernel_rfl) (fun _ _ _ h => h) (Or.inl ⟨by rfl, ?_⟩) (by assumption) ?_
  rotate_left
  · (intro w hSw; (try dsimp only at hSw); go_simp; try with_reducible rfl)
  simp only [List.getElem_toArray, List.getElem_cons_succ, List.getElem_cons_zero, Act.put, List.setIfInBounds_toArray, List.set_cons_zero, List.set_cons_succ]
  refine wpAnyH_norm (l2 := #[true, false, false, false, false, false, false, false, false, false, false, false, false, false, false, false, false]) (f2 := 16) (by kernel_rfl) (by kernel_rfl) ?_
  refine wpAnyH_take (i := 1) (oi := _) (v := ?_) rfl (by kernel_rfl) (by kernel_rfl) (by kernel_rfl) (fun _ _ _ h => h) (Or.inl ⟨by rfl, ?_⟩) (by assumption) ?_
  rotate_left
  · (intro w hSw; (try dsimp only at hSw); go_simp; try with_reducible rfl)
  simp only [List.getElem_toArray, List.getElem_cons_succ, List.getElem_cons_zero, Act.put, List.setIfInBounds_toArray, List.set_cons_zero, List.set_cons_succ]
  refine wpAnyH_norm (l2 := #[true, true, false, false, false, false, false, false, false, false, false, false, false, false, false, false, false]) (f2 := 15) (by kernel_rfl) (by kernel_rfl) ?_
  refine wpAnyH_take (i := 2) (oi := _) (v := ?_) rfl (by kernel_rfl) (by kernel_rfl) (by kernel_rfl) (fun _ _ _ h => h) (Or.inl ⟨by rfl, ?_⟩) (by assumption) ?_
  rotate_left
  · (intro w hSw; (try dsimp only at hSw); go_simp; try with_reducible rfl)
  simp only [List.getElem_toArray, List.getElem_cons_succ, List.getElem_cons_zero, Act.put, List.setIfInBounds_toArray, List.set_cons_zero, List.set_cons_succ]
  refine wpAnyH_norm (l2 := #[true, true, true, false, false, false, false, false, false, false, false, false, false, false, false, false, false]) (f2 := 14) (by kernel_rfl) (by kernel_rfl) ?_
  refine wpAnyH_take (i := 3) (oi := _) (v := ?_) rfl (by kernel_rfl) (by kernel_rfl) (by kernel_rfl) (fun _ _ _ h => h) (Or.inl ⟨by rfl, ?_⟩) (by assumption) ?_
  rotate_left
  · (intro w hSw; (try dsimp only at hSw); go_simp; try with_reducible rfl)
  simp only [List.getElem_toArray, List.getElem_cons_succ, List.getElem_cons_zero, Act.put, List.setIfInBounds_toArray, List.set_cons_zero, List.set_cons_succ]
  refine wpAnyH_norm (l2 := #[true, true, true, true, false, false, false, false, false, false, false, false, false, false, false, false, false]) (f2 := 13) (by kernel_rfl) (by kernel_rfl) ?_
  refine wpAnyH_take (i := 5) (oi := _) (v := ?_) rfl (by kernel_rfl) (by kernel_rfl) (by kernel_rfl) (fun _ _ _ h => h) (Or.inl ⟨by rfl, ?_⟩) (by assumption) ?_
  rotate_left
  · (intro w hSw; (try dsimp only at hSw); go_simp; try with_reducible rfl)
  simp only [List.getElem_toArray, List.getElem_cons_succ, List.getElem_cons_zero, Act.put, List.setIfInBounds_toArray, List.set_cons_zero, List.set_cons_succ]
  refine wpAnyH_norm (l2 := #[true, true, true, true, false, true, false, false, false, false, false, false, false, false, false, false, false]) (f2 := 12) (by kernel_rfl) (by kernel_rfl) ?_
  refine wpAnyH_take (i := 6) (oi := _) (v := ?_) rfl (by kernel_rfl) (by kernel_rfl) (by kernel_rfl) (fun _ _ _ h => h) (Or.inl ⟨by rfl, ?_⟩) (by assumption) ?_
  rotate_left
  · (intro w hSw; (try dsimp only at hSw); go_simp; try with_reducible rfl)
  simp only [List.getElem_toArray, List.getElem_cons_succ, List.getElem_cons_zero, Act.put, List.setIfInBounds_toArray, List.set_cons_zero, List.set_cons_succ]
  refine wpAnyH_norm (l2 := #[true, true, true, true, false, true, true, false, false, false, false, false, false, false, false, false, false]) (f2 := 11) (by kernel_rfl) (by kernel_rfl) ?_
  refine wpAnyH_take (i := 7) (oi := _) (v := ?_) rfl (by kernel_rfl) (by kernel_rfl) (by kernel_rfl) (fun _ _ _ h => h) (Or.inl ⟨by rfl, ?_⟩) (by assumption) ?_
  rotate_left
  · (intro w hSw; (try dsimp only at hSw); go_simp; try with_reducible rfl)
  simp only [List.getElem_toArray, List.getElem_cons_succ, List.getElem_cons_zero, Act.put, List.setIfInBounds_toArray, List.set_cons_zero, List.set_cons_succ]
  refine wpAnyH_norm (l2 := #[true, true, true, true, false, true, true, true, false, false, false, false, false, false, false, false, false]) (f2 := 10) (by kernel_rfl) (by kernel_rfl) ?_
  refine wpAnyH_take (i := 9) (oi := _) (v := ?_) rfl (by kernel_rfl) (by kernel_rfl) (by kernel_rfl) (fun _ _ _ h => h) (Or.inl ⟨by rfl, ?_⟩) (by assumption) ?_
  rotate_left
  · (intro w hSw; (try dsimp only at hSw); go_simp; try with_reducible rfl)
  simp only [List.getElem_toArray, List.getElem_cons_succ, List.getElem_cons_zero, Act.put, List.setIfInBounds_toArray, List.set_cons_zero, List.set_cons_succ]
  refine share Unit 4 #[true, true, true, true, true, true, true, true, true, true, true, true, true, false, false, false, false] (fun fr _ => (((((fr).put (some 17) (.slice a V.length cap)).put (some 21) (.int .i64 nx)).put (some 23) (Value.slice (some ⟨w1.heap.size, 0, none⟩) k k)).put (some 24) (.agg #[.int .i64 nx, Value.slice (some ⟨w1.heap.size, 0, none⟩) k k])).put (some 25) (.slice (some ⟨w1.heap.size + 1, 0, none⟩) 1 1)) (fun _ u => u = ((w1.alloc (Obj.cells Z 5)).alloc (Obj.cells #[Value.int .i64 nx, Value.slice (some ⟨w1.heap.size, 0, none⟩) k k] 92)).drew) ?_ (fun KEY_4_8_10_12 => ?_)
  · intro x u hx
    subst hx
    have hHeld : True := trivial
    simp only [List.getElem_toArray, List.getElem_cons_succ, List.getElem_cons_zero, Act.put, List.setIfInBounds_toArray, List.set_cons_zero, List.set_cons_succ]
    refine wpAnyH_norm (l2 := #[true, true, true, true, true, true, true, true, true, true, true, true, true, false, false, false, false]) (f2 := 4) (by kernel_rfl) (by kernel_rfl) ?_
    refine wpAnyH_ready (rs := [13]) (by kernel_rfl) (by simp) ?_
    refine AllReadyH.cons rfl (fun K hK => ?_) AllReadyH.nil
    · rw [if_pos (by kernel_rfl)]
      refine wp_append_known (.tmp 17) (.tmp 25) 88 rfl _ _ rfl rfl _ w4 HRUN.out ?_
      refine hK.out _ _ trivial (fun hHeld => ?_)
      clear hK K
      simp only [List.getElem_toArray, List.getElem_cons_succ, List.getElem_cons_zero, Act.put, List.setIfInBounds_toArray, List.set_cons_zero, List.set_cons_succ]
      refine wpAnyH_norm (l2 := #[true, true, true, true, true, true, true, true, true, true, true, true, true, true, false, false, false]) (f2 := 3) (by kernel_rfl) (by kernel_rfl) ?_
      refine wpAnyH_take (i := 14) (oi := _) (v := ?_) rfl (by kernel_rfl) (by kernel_rfl) (by kernel_rfl) (fun _ _ _ h => h) (Or.inl ⟨by rfl, ?_⟩) (by assumption) ?_
      rotate_left
      · (intro w hSw; (try dsimp only at hSw); go_simp; try with_reducible rfl)
      simp only [List.getElem_toArray, List.getElem_cons_succ, List.getElem_cons_zero, Act.put, List.setIfInBounds_toArray, List.set_cons_zero, List.set_cons_succ]
      refine wpAnyH_norm (l2 := #[true, true, true, true, true, true, true, true, true, true, true, true, true, true, true, false, false]) (f2 := 2) (by kernel_rfl) (by kernel_rfl) ?_
      refine wpAnyH_take (i := 15) (oi := _) (v := ?_) rfl (by kernel_rfl) (by kernel_rfl) (by kernel_rfl) (fun _ _ _ h => h) (Or.inl ⟨by rfl, ?_⟩) (by assumption) ?_
      rotate_left
      · (intro w hSw; (try dsimp only at hSw); go_simp; try with_reducible rfl)
      simp only [List.getElem_toArray, List.getElem_cons_succ, List.getElem_cons_zero, Act.put, List.setIfInBounds_toArray, List.set_cons_zero, List.set_cons_succ]
      refine wpAnyH_norm (l2 := #[true, true, true, true, true, true, true, true, true, true, true, true, true, true, true, true, false]) (f2 := 1) (by kernel_rfl) (by kernel_rfl) ?_
      refine wpAnyH_ready (rs := [16]) (by kernel_rfl) (by simp) ?_
      refine AllReadyH.cons rfl (fun K hK => ?_) AllReadyH.nil
      go_simp
      refine hK.out _ _ trivial (fun hHeld => ?_)
      clear hK K
      simp only [List.getElem_toArray, List.getElem_cons_succ, List.getElem_cons_zero, Act.put, List.setIfInBounds_toArray, List.set_cons_zero, List.set_cons_succ]
      refine wpAnyH_norm (l2 := #[true, true, true, true, true, true, true, true, true, true, true, true, true, true, true, true, true]) (f2 := 0) (by kernel_rfl) (by kernel_rfl) ?_
      refine wpAnyH_done (by kernel_rfl) ?_ _
      go_wp2
      refine bodyPost_ret (v := .tuple #[.int .i64 nx, .int .i64 0]) (by simp [results, Try.results36, go_sem, hwr3]) rfl ⟨_, _, _, _, rfl, H1.out.create HBU.out HUS.out HUZ.out HG4.out HO4.out hk HNX.out HRO.out, fun j hj => ?_, ?_⟩
      · have hsz : w1.heap.size = w.heap.size := by rw [← hw1]; rfl
        by_cases e1 : j = w1.heap.size
        · right
          omega
        · simp only [if_neg e1] at hj
          by_cases e2 : w1.heap.size ≤ j ∧ j < w4.heap.size
          · right
            have e3 := e2.1
            omega
          · simp only [if_neg e2] at hj
            exact .inl hj
      · have b1 : But (fun j => col j ≠ 0) w w1 := by rw [← hw1]; exact But.of (below_drewN (Below.refl _ _) d)
        have b2 := (b1.call HBU.out).trans (HG4.out.but.mono (fun j hj => by rw [H1.out.k2 j hj]; decide))
        have hk1 : col r ≠ 0 := by rw [H1.out.k1]; decide
        exact (b2.setCell (p := ⟨r, 2, none⟩) hk1 _).setCell (p := ⟨r, 3, none⟩) hk1 _
  simp only [List.getElem_toArray, List.getElem_cons_succ, List.getElem_cons_zero, Act.put, List.setIfInBounds_toArray, List.set_cons_zero, List.set_cons_succ] at KEY_4_8_10_12
  refine share Unit 5 #[true, true, true, true, false, true, true, true, true, true, true, true, true, false, false, false, false] (fun fr _ => ((((fr).put (some 21) (.int .i64 nx)).put (some 23) (Value.slice (some ⟨w1.heap.size, 0, none⟩) k k)).put (some 24) (.agg #[.int .i64 nx, Value.slice (some ⟨w1.heap.size, 0, none⟩) k k])).put (some 25) (.slice (some ⟨w1.heap.size + 1, 0, none⟩) 1 1)) (fun _ u => u = ((w1.alloc (Obj.cells Z 5)).alloc (Obj.cells #[Value.int .i64 nx, Value.slice (some ⟨w1.heap.size, 0, none⟩) k k] 92)).drew) ?_ (fun KEY_8_10_12 => ?_)
  · intro x u hx
    subst hx
    have hHeld : True := trivial
    simp only [List.getElem_toArray, List.getElem_cons_succ, List.getElem_cons_zero, Act.put, List.setIfInBounds_toArray, List.set_cons_zero, List.set_cons_succ]
    refine wpAnyH_norm (l2 := #[true, true, true, true, false, true, true, true, true, true, true, true, true, false, false, false, false]) (f2 := 5) (by kernel_rfl) (by kernel_rfl) ?_
    refine wpAnyH_ready (rs := [4]) (by kernel_rfl) (by simp) ?_
    refine AllReadyH.cons rfl (fun K hK => ?_) AllReadyH.nil
    · go_simp
      refine hK.out _ _ trivial (fun hHeld => ?_)
      clear hK K
      simp only [List.getElem_toArray, List.getElem_cons_succ, List.getElem_cons_zero, Act.put, List.setIfInBounds_toArray, List.set_cons_zero, List.set_cons_succ]
      refine wpAnyH_norm (l2 := #[true, true, true, true, true, true, true, true, true, true, true, true, true, false, false, false, false]) (f2 := 4) (by kernel_rfl) (by kernel_rfl) ?_
      exact KEY_4_8_10_12.out () _ rfl
  simp only [List.getElem_toArray, List.getElem_cons_succ, List.getElem_cons_zero, Act.put, List.setIfInBounds_toArray, List.set_cons_zero, List.set_cons_succ] at KEY_8_10_12
  refine share Unit 5 #[true, true, true, true, true, true, true, true, true, true, true, true, false, false, false, false, false] (fun fr _ => ((((fr).put (some 17) (.slice a V.length cap)).put (some 21) (.int .i64 nx)).put (some 23) (Value.slice (some ⟨w1.heap.size, 0, none⟩) k k)).put (some 24) (.agg #[.int .i64 nx, Value.slice (some ⟨w1.heap.size, 0, none⟩) k k])) (fun _ u => u = (w1.alloc (Obj.cells Z 5)).drew) ?_ (fun KEY_4_8_10 => ?_)
  · intro x u hx
    subst hx
    have hHeld : True := trivial
    simp only [List.getElem_toArray, List.getElem_cons_succ, List.getElem_cons_zero, Act.put, List.setIfInBounds_toArray, List.set_cons_zero, List.set_cons_succ]
    refine wpAnyH_norm (l2 := #[true, true, true, true, true, true, true, true, true, true, true, true, false, false, false, false, false]) (f2 := 5) (by kernel_rfl) (by kernel_rfl) ?_
    refine wpAnyH_ready (rs := [12]) (by kernel_rfl) (by simp) ?_
    refine AllReadyH.cons rfl (fun K hK => ?_) AllReadyH.nil
    · go_simp
      refine hK.out _ _ trivial (fun hHeld => ?_)
      clear hK K
      simp only [List.getElem_toArray, List.getElem_cons_succ, List.getElem_cons_zero, Act.put, List.setIfInBounds_toArray, List.set_cons_zero, List.set_cons_succ]
      refine wpAnyH_norm (l2 := #[true, true, true, true, true, true, true, true, true, true, true, true, true, false, false, false, false]) (f2 := 4) (by kernel_rfl) (by kernel_rfl) ?_
      exact KEY_4_8_10_12.out () _ rfl
  simp only [List.getElem_toArray, List.getElem_cons_succ, List.getElem_cons_zero, Act.put, List.setIfInBounds_toArray, List.set_cons_zero, List.set_cons_succ] at KEY_4_8_10
  refine share Unit 6 #[true, true, true, true, false, true, true, true, true, true, true, true, false, false, false, false, false] (fun fr _ => (((fr).put (some 21) (.int .i64 nx)).put (some 23) (Value.slice (some ⟨w1.heap.size, 0, none⟩) k k)).put (some 24) (.agg #[.int .i64 nx, Value.slice (some ⟨w1.heap.size, 0, none⟩) k k])) (fun _ u => u = (w1.alloc (Obj.cells Z 5)).drew) ?_ (fun KEY_8_10 => ?_)
  · intro x u hx
    subst hx
    have hHeld : True := trivial
    simp only [List.getElem_toArray, List.getElem_cons_succ, List.getElem_cons_zero, Act.put, List.setIfInBounds_toArray, List.set_cons_zero, List.set_cons_succ]
    refine wpAnyH_norm (l2 := #[true, true, true, true, false, true, true, true, true, true, true, true, false, false, false, false, false]) (f2 := 6) (by kernel_rfl) (by kernel_rfl) ?_
    refine wpAnyH_ready (rs := [4, 12]) (by kernel_rfl) (by simp) ?_
    refine AllReadyH.cons rfl (fun K hK => ?_) (AllReadyH.cons rfl (fun K hK => ?_) AllReadyH.nil)
    · go_simp
      refine hK.out _ _ trivial (fun hHeld => ?_)
      clear hK K
      simp only [List.getElem_toArray, List.getElem_cons_succ, List.getElem_cons_zero, Act.put, List.setIfInBounds_toArray, List.set_cons_zero, List.set_cons_succ]
      refine wpAnyH_norm (l2 := #[true, true, true, true, true, true, true, true, true, true, true, true, false, false, false, false, false]) (f2 := 5) (by kernel_rfl) (by kernel_rfl) ?_
      exact KEY_4_8_10.out () _ rfl
    · go_simp
      refine hK.out _ _ trivial (fun hHeld => ?_)
      clear hK K
      simp only [List.getElem_toArray, List.getElem_cons_succ, List.getElem_cons_zero, Act.put, List.setIfInBounds_toArray, List.set_cons_zero, List.set_cons_succ]
      refine wpAnyH_norm (l2 := #[true, true, true, true, false, true, true, true, true, true, true, true, true, false, false, false, false]) (f2 := 5) (by kernel_rfl) (by kernel_rfl) ?_
      exact KEY_8_10_12.out () _ rfl
  simp only [List.getElem_toArray, List.getElem_cons_succ, List.getElem_cons_zero, Act.put, List.setIfInBounds_toArray, List.set_cons_zero, List.set_cons_succ] at KEY_8_10
  refine share Unit 7 #[true, true, true, true, true, true, true, true, false, true, true, false, false, false, false, false, false] (fun fr _ => ((fr).put (some 17) (.slice a V.length cap)).put (some 23) (Value.slice (some ⟨w1.heap.size, 0, none⟩) k k)) (fun _ u => u = (w1.alloc (Obj.cells Z 5)).drew) ?_ (fun KEY_4_10 => ?_)
  · intro x u hx
    subst hx
    have hHeld : True := trivial
    simp only [List.getElem_toArray, List.getElem_cons_succ, List.getElem_cons_zero, Act.put, List.setIfInBounds_toArray, List.set_cons_zero, List.set_cons_succ]
    refine wpAnyH_norm (l2 := #[true, true, true, true, true, true, true, true, false, true, true, false, false, false, false, false, false]) (f2 := 7) (by kernel_rfl) (by kernel_rfl) ?_
    refine wpAnyH_ready (rs := [8]) (by kernel_rfl) (by simp) ?_
    refine AllReadyH.cons rfl (fun K hK => ?_) AllReadyH.nil
    · go_simp
      refine hK.out _ _ trivial (fun hHeld => ?_)
      clear hK K
      simp only [List.getElem_toArray, List.getElem_cons_succ, List.getElem_cons_zero, Act.put, List.setIfInBounds_toArray, List.set_cons_zero, List.set_cons_succ]
      refine wpAnyH_norm (l2 := #[true, true, true, true, true, true, true, true, true, true, true, false, false, false, false, false, false]) (f2 := 6) (by kernel_rfl) (by kernel_rfl) ?_
      refine wpAnyH_take (i := 11) (oi := _) (v := ?_) rfl (by kernel_rfl) (by kernel_rfl) (by kernel_rfl) (fun _ _ _ h => h) (Or.inl ⟨by rfl, ?_⟩) (by assumption) ?_
      rotate_left
      · (intro w hSw; (try dsimp only at hSw); go_simp; try with_reducible rfl)
      simp only [List.getElem_toArray, List.getElem_cons_succ, List.getElem_cons_zero, Act.put, List.setIfInBounds_toArray, List.set_cons_zero, List.set_cons_succ]
      refine wpAnyH_norm (l2 := #[true, true, true, true, true, true, true, true, true, true, true, true, false, false, false, false, false]) (f2 := 5) (by kernel_rfl) (by kernel_rfl) ?_
      exact KEY_4_8_10.out () _ rfl
  simp only [List.getElem_toArray, List.getElem_cons_succ, List.getElem_cons_zero, Act.put, List.setIfInBounds_toArray, List.set_cons_zero, List.set_cons_succ] at KEY_4_10
  refine share Unit 7 #[true, true, true, true, true, true, true, true, true, true, false, false, false, false, false, false, false] (fun fr _ => ((fr).put (some 17) (.slice a V.length cap)).put (some 21) (.int .i64 nx)) (fun _ u => u = w1.drew) ?_ (fun KEY_4_8 => ?_)
  · intro x u hx
    subst hx
    have hHeld : True := trivial
    simp only [List.getElem_toArray, List.getElem_cons_succ, List.getElem_cons_zero, Act.put, List.setIfInBounds_toArray, List.set_cons_zero, List.set_cons_succ]
    refine wpAnyH_norm (l2 := #[true, true, true, true, true, true, true, true, true, true, false, false, false, false, false, false, false]) (f2 := 7) (by kernel_rfl) (by kernel_rfl) ?_
    refine wpAnyH_ready (rs := [10]) (by kernel_rfl) (by simp) ?_
    refine AllReadyH.cons rfl (fun K hK => ?_) AllReadyH.nil
    · go_simp
      refine hK.out _ _ trivial (fun hHeld => ?_)
      clear hK K
      simp only [List.getElem_toArray, List.getElem_cons_succ, List.getElem_cons_zero, Act.put, List.setIfInBounds_toArray, List.set_cons_zero, List.set_cons_succ]
      refine wpAnyH_norm (l2 := #[true, true, true, true, true, true, true, true, true, true, true, false, false, false, false, false, false]) (f2 := 6) (by kernel_rfl) (by kernel_rfl) ?_
      refine wpAnyH_take (i := 11) (oi := _) (v := ?_) rfl (by kernel_rfl) (by kernel_rfl) (by kernel_rfl) (fun _ _ _ h => h) (Or.inl ⟨by rfl, ?_⟩) (by assumption) ?_
      rotate_left
      · (intro w hSw; (try dsimp only at hSw); go_simp; try with_reducible rfl)
      simp only [List.getElem_toArray, List.getElem_cons_succ, List.getElem_cons_zero, Act.put, List.setIfInBounds_toArray, List.set_cons_zero, List.set_cons_succ]
      refine wpAnyH_norm (l2 := #[true, true, true, true, true, true, true, true, true, true, true, true, false, false, false, false, false]) (f2 := 5) (by kernel_rfl) (by kernel_rfl) ?_
      exact KEY_4_8_10.out () _ rfl
  simp only [List.getElem_toArray, List.getElem_cons_succ, List.getElem_cons_zero, Act.put, List.setIfInBounds_toArray, List.set_cons_zero, List.set_cons_succ] at KEY_4_8
  refine share Unit 8 #[true, true, true, true, false, true, true, true, false, true, true, false, false, false, false, false, false] (fun fr _ => (fr).put (some 23) (Value.slice (some ⟨w1.heap.size, 0, none⟩) k k)) (fun _ u => u = (w1.alloc (Obj.cells Z 5)).drew) ?_ (fun KEY_10 => ?_)
  · intro x u hx
    subst hx
    have hHeld : True := trivial
    simp only [List.getElem_toArray, List.getElem_cons_succ, List.getElem_cons_zero, Act.put, List.setIfInBounds_toArray, List.set_cons_zero, List.set_cons_succ]
    refine wpAnyH_norm (l2 := #[true, true, true, true, false, true, true, true, false, true, true, false, false, false, false, false, false]) (f2 := 8) (by kernel_rfl) (by kernel_rfl) ?_
    refine wpAnyH_ready (rs := [4, 8]) (by kernel_rfl) (by simp) ?_
    refine AllReadyH.cons rfl (fun K hK => ?_) (AllReadyH.cons rfl (fun K hK => ?_) AllReadyH.nil)
    · go_simp
      refine hK.out _ _ trivial (fun hHeld => ?_)
      clear hK K
      simp only [List.getElem_toArray, List.getElem_cons_succ, List.getElem_cons_zero, Act.put, List.setIfInBounds_toArray, List.set_cons_zero, List.set_cons_succ]
      refine wpAnyH_norm (l2 := #[true, true, true, true, true, true, true, true, false, true, true, false, false, false, false, false, false]) (f2 := 7) (by kernel_rfl) (by kernel_rfl) ?_
      exact KEY_4_10.out () _ rfl
    · go_simp
      refine hK.out _ _ trivial (fun hHeld => ?_)
      clear hK K
      simp only [List.getElem_toArray, List.getElem_cons_succ, List.getElem_cons_zero, Act.put, List.setIfInBounds_toArray, List.set_cons_zero, List.set_cons_succ]
      refine wpAnyH_norm (l2 := #[true, true, true, true, false, true, true, true, true, true, true, false, false, false, false, false, false]) (f2 := 7) (by kernel_rfl) (by kernel_rfl) ?_
      refine wpAnyH_take (i := 11) (oi := _) (v := ?_) rfl (by kernel_rfl) (by kernel_rfl) (by kernel_rfl) (fun _ _ _ h => h) (Or.inl ⟨by rfl, ?_⟩) (by assumption) ?_
      rotate_left
      · (intro w hSw; (try dsimp only at hSw); go_simp; try with_reducible rfl)
      simp only [List.getElem_toArray, List.getElem_cons_succ, List.getElem_cons_zero, Act.put, List.setIfInBounds_toArray, List.set_cons_zero, List.set_cons_succ]
      refine wpAnyH_norm (l2 := #[true, true, true, true, false, true, true, true, true, true, true, true, false, false, false, false, false]) (f2 := 6) (by kernel_rfl) (by kernel_rfl) ?_
      exact KEY_8_10.out () _ rfl
  simp only [List.getElem_toArray, List.getElem_cons_succ, List.getElem_cons_zero, Act.put, List.setIfInBounds_toArray, List.set_cons_zero, List.set_cons_succ] at KEY_10
  refine share Unit 8 #[true, true, true, true, false, true, true, true, true, true, false, false, false, false, false, false, false] (fun fr _ => (fr).put (some 21) (.int .i64 nx)) (fun _ u => u = w1.drew) ?_ (fun KEY_8 => ?_)
  · intro x u hx
    subst hx
    have hHeld : True := trivial
    simp only [List.getElem_toArray, List.getElem_cons_succ, List.getElem_cons_zero, Act.put, List.setIfInBounds_toArray, List.set_cons_zero, List.set_cons_succ]
    refine wpAnyH_norm (l2 := #[true, true, true, true, false, true, true, true, true, true, false, false, false, false, false, false, false]) (f2 := 8) (by kernel_rfl) (by kernel_rfl) ?_
    refine wpAnyH_ready (rs := [4, 10]) (by kernel_rfl) (by simp) ?_
    refine AllReadyH.cons rfl (fun K hK => ?_) (AllReadyH.cons rfl (fun K hK => ?_) AllReadyH.nil)
    · go_simp
      refine hK.out _ _ trivial (fun hHeld => ?_)
      clear hK K
      simp only [List.getElem_toArray, List.getElem_cons_succ, List.getElem_cons_zero, Act.put, List.setIfInBounds_toArray, List.set_cons_zero, List.set_cons_succ]
      refine wpAnyH_norm (l2 := #[true, true, true, true, true, true, true, true, true, true, false, false, false, false, false, false, false]) (f2 := 7) (by kernel_rfl) (by kernel_rfl) ?_
      exact KEY_4_8.out () _ rfl
    · go_simp
      refine hK.out _ _ trivial (fun hHeld => ?_)
      clear hK K
      simp only [List.getElem_toArray, List.getElem_cons_succ, List.getElem_cons_zero, Act.put, List.setIfInBounds_toArray, List.set_cons_zero, List.set_cons_succ]
      refine wpAnyH_norm (l2 := #[true, true, true, true, false, true, true, true, true, true, true, false, false, false, false, false, false]) (f2 := 7) (by kernel_rfl) (by kernel_rfl) ?_
      refine wpAnyH_take (i := 11) (oi := _) (v := ?_) rfl (by kernel_rfl) (by kernel_rfl) (by kernel_rfl) (fun _ _ _ h => h) (Or.inl ⟨by rfl, ?_⟩) (by assumption) ?_
      rotate_left
      · (intro w hSw; (try dsimp only at hSw); go_simp; try with_reducible rfl)
      simp only [List.getElem_toArray, List.getElem_cons_succ, List.getElem_cons_zero, Act.put, List.setIfInBounds_toArray, List.set_cons_zero, List.set_cons_succ]
      refine wpAnyH_norm (l2 := #[true, true, true, true, false, true, true, true, true, true, true, true, false, false, false, false, false]) (f2 := 6) (by kernel_rfl) (by kernel_rfl) ?_
      exact KEY_8_10.out () _ rfl
  simp only [List.getElem_toArray, List.getElem_cons_succ, List.getElem_cons_zero, Act.put, List.setIfInBounds_toArray, List.set_cons_zero, List.set_cons_succ] at KEY_8
  refine share Unit 8 #[true, true, true, true, true, true, true, true, false, true, false, false, false, false, false, false, false] (fun fr _ => (fr).put (some 17) (.slice a V.length cap)) (fun _ u => u = w1.drew) ?_ (fun KEY_4 => ?_)
  · intro x u hx
    subst hx
    have hHeld : True := trivial
    simp only [List.getElem_toArray, List.getElem_cons_succ, List.getElem_cons_zero, Act.put, List.setIfInBounds_toArray, List.set_cons_zero, List.set_cons_succ]
    refine wpAnyH_norm (l2 := #[true, true, true, true, true, true, true, true, false, true, false, false, false, false, false, false, false]) (f2 := 8) (by kernel_rfl) (by kernel_rfl) ?_
    refine wpAnyH_ready (rs := [8, 10]) (by kernel_rfl) (by simp) ?_
    refine AllReadyH.cons rfl (fun K hK => ?_) (AllReadyH.cons rfl (fun K hK => ?_) AllReadyH.nil)
    · go_simp
      refine hK.out _ _ trivial (fun hHeld => ?_)
      clear hK K
      simp only [List.getElem_toArray, List.getElem_cons_succ, List.getElem_cons_zero, Act.put, List.setIfInBounds_toArray, List.set_cons_zero, List.set_cons_succ]
      refine wpAnyH_norm (l2 := #[true, true, true, true, true, true, true, true, true, true, false, false, false, false, false, false, false]) (f2 := 7) (by kernel_rfl) (by kernel_rfl) ?_
      exact KEY_4_8.out () _ rfl
    · go_simp
      refine hK.out _ _ trivial (fun hHeld => ?_)
      clear hK K
      simp only [List.getElem_toArray, List.getElem_cons_succ, List.getElem_cons_zero, Act.put, List.setIfInBounds_toArray, List.set_cons_zero, List.set_cons_succ]
      refine wpAnyH_norm (l2 := #[true, true, true, true, true, true, true, true, false, true, true, false, false, false, false, false, false]) (f2 := 7) (by kernel_rfl) (by kernel_rfl) ?_
      exact KEY_4_10.out () _ rfl
  simp only [List.getElem_toArray, List.getElem_cons_succ, List.getElem_cons_zero, Act.put, List.setIfInBounds_toArray, List.set_cons_zero, List.set_cons_succ] at KEY_4
  refine wpAnyH_norm (l2 := #[true, true, true, true, false, true, true, true, false, true, false, false, false, false, false, false, false]) (f2 := 9) (by kernel_rfl) (by kernel_rfl) ?_
  refine wpAnyH_ready (rs := [4, 8, 10]) (by kernel_rfl) (by simp) ?_
  refine AllReadyH.cons rfl (fun K hK => ?_) (AllReadyH.cons rfl (fun K hK => ?_) (AllReadyH.cons rfl (fun K hK => ?_) AllReadyH.nil))
  · go_simp
    refine hK.out _ _ trivial (fun hHeld => ?_)
    clear hK K
    simp only [List.getElem_toArray, List.getElem_cons_succ, List.getElem_cons_zero, Act.put, List.setIfInBounds_toArray, List.set_cons_zero, List.set_cons_succ]
    refine wpAnyH_norm (l2 := #[true, true, true, true, true, true, true, true, false, true, false, false, false, false, false, false, false]) (f2 := 8) (by kernel_rfl) (by kernel_rfl) ?_
    exact KEY_4.out () _ rfl
  · go_simp
    refine hK.out _ _ trivial (fun hHeld => ?_)
    clear hK K
    simp only [List.getElem_toArray, List.getElem_cons_succ, List.getElem_cons_zero, Act.put, List.setIfInBounds_toArray, List.set_cons_zero, List.set_cons_succ]
    refine wpAnyH_norm (l2 := #[true, true, true, true, false, true, true, true, true, true, false, false, false, false, false, false, false]) (f2 := 8) (by kernel_rfl) (by kernel_rfl) ?_
    exact KEY_8.out () _ rfl
  · go_simp
    refine hK.out _ _ trivial (fun hHeld => ?_)
    clear hK K
    simp only [List.getElem_toArray, List.getElem_cons_succ, List.getElem_cons_zero, Act.put, List.setIfInBounds_toArray, List.set_cons_zero, List.set_cons_succ]
    refine wpAnyH_norm (l2 := #[true, true, true, true, false, true, true, true, false, true, true, false, false, false, false, false, false]) (f2 := 8) (by kernel_rfl) (by kernel_rfl) ?_
    exact KEY_10.out () _ rfl
end Go.Proofs.Ytejkbeeffllpfaa
