import Derived.Test.YthfmmfphnimlnaaIO
namespace Go.Proofs.Ythfmmfphnimlnaa
open Go.RowKit
set_option linter.unusedVariables false
set_option linter.unusedSimpArgs false
set_option maxRecDepth 100000 in
set_option maxHeartbeats 8000000 in
theorem layConfig_any (c : Cf) (hc : ∀ n ∈ c.l10, 0 ≤ n ∧ n < 65536) (w : World) :
    Calls Try.prog 39 #[c.v] w fun e w' => ∃ a n c', e = .returned (.slice a n c') ∧ Own w' w.heap.size a n c' (cfL c) ∧ Below w.heap.size w w' := by
  obtain ⟨W, hW⟩ : ∃ W, W = (w.alloc (Obj.cells #[.int .i64 c.w, .int .i64 c.o, .int .i64 c.p, .int .i64 c.e, .int .i64 c.q, .int .i64 c.r, .int .i64 c.l, .int .i64 c.s, .int .i64 c.y, .int .i64 c.k] 23)).alloc (Obj.cells #[.int .i64 c.w, .int .i64 c.o, .int .i64 c.p, .int .i64 c.e, .int .i64 c.q, .int .i64 c.r, .int .i64 c.l, .int .i64 c.s, .int .i64 c.y, .int .i64 c.k] 3) := ⟨_, rfl⟩
  have hB : Below w.heap.size w W := by rw [hW]; exact below2 _ _ _
  have HR : Hid (∀ (i : Nat) (v : Int), c.l10[i]? = some v → W.cell? ⟨w.heap.size + 1, i, none⟩ = some (.int .i64 v)) := by
    intro i v hv
    have h2 : (c.L)[i]? = some (.int .i64 v) := by
      have e : c.L = c.l10.map (fun v => Value.int .i64 v) := rfl
      rw [e, List.getElem?_map, hv]; rfl
    have := rangeAt_new (w.alloc (Obj.cells #[.int .i64 c.w, .int .i64 c.o, .int .i64 c.p, .int .i64 c.e, .int .i64 c.q, .int .i64 c.r, .int .i64 c.l, .int .i64 c.s, .int .i64 c.y, .int .i64 c.k] 23)) c.L 3
    rw [World.size_alloc] at this
    rw [hW]
    have h3 := this i _ h2
    rw [Nat.zero_add] at h3
    exact h3
  have HC := hid hc
  have HB := hid hB
  have HW := hid hW
  have HWs : Hid (W.heap.size = w.heap.size + 1 + 1) := by rw [hW]; unfold Hid; simp
  clear hc hB hW
  go_enter Try.func39, Try.ntmps39
  go_upto_region 3 with fail
  rw [← HW.out]
  go_loopw [3, 28] (fun t i U => ∃ (j : Nat) (ra : Option Addr) (rn rc : Nat) (rs : List R4), i = .int .i64 (j : Int) ∧ t = .slice ra rn rc ∧ j ≤ 10 ∧ rn = j ∧ OR W U ra rn rc rs ∧ cat4 rs = (c.l10.take j).flatMap (fun n => leL n.toNat 2) ∧ Below W.heap.size W U) (fun _ i _ => 10 - ivN i)
  case atStart => exact ⟨0, _, _, _, [], rfl, rfl, Nat.zero_le _, rfl, OR.nil _ _, rfl, Below.refl _ _⟩
  case round =>
    obtain ⟨j, ra, rn, rc, rs, rfl, rfl, hj, hrn, hO, hCt, hBr⟩ := hrel
    have HO := hid hO
    have HCt := hid hCt
    have HBr := hid hBr
    have HRn := hid hrn
    clear hO hCt hBr hrn
    by_cases hlt : j < 10
    · have hd : decide ((j : Int) < 10) = true := by simp; omega
      obtain ⟨v, hv⟩ : ∃ v, c.l10[j]? = some v := ⟨_, List.getElem?_eq_getElem (by simp [Cf.l10]; omega)⟩
      have hvb := HC.out v (List.mem_of_getElem? hv)
      have HT := hid (flat_take (fun n : Int => leL n.toNat 2) hv)
      have y0 := cell_later HBr.out (HR.out j v hv)
      obtain ⟨x, rfl⟩ : ∃ x : Nat, v = x := ⟨v.toNat, by omega⟩
      have HL2 := hid (layTwo_any x (by omega))
      simp only [Int.toNat_natCast] at HT
      have hj10 : (j : Int) < 10 := by omega
      clear hv hvb
      go_wp2_with (first
        | (go_at_call 42; refine (HL2.out _).mono ?_; rintro e w2 ⟨a2, c2, rfl, hown2, hb2⟩; obtain ⟨a3, c3, w3, hrun3, hor3, hbw3, _, _⟩ := append_row (HO.out.later hb2) (.inr (hown2.mono HBr.out.size)) (below_call HBr.out hb2) (by have := HRn.out; omega); have HRUN := hid hrun3; have HOR3 := hid hor3; have HBW3 := hid hbw3; clear hown2 hb2 hrun3 hor3 hbw3)
        | (at_builtin; refine wpList_append_known rfl _ _ 107 rfl _ _ rfl rfl _ w3 HRUN.out ?_))
      refine ⟨⟨j + 1, a3, rn + 1, c3, _, rfl, rfl, by omega, by have := HRn.out; omega, HOR3.out, ?_, HBW3.out⟩, by simp [ivN]; omega⟩
      rw [cat4_append, HCt.out, HT.out]
      simp [cat4]
    · obtain rfl : j = 10 := by omega
      have HCe : Hid (cat4 rs = cfL c) := HCt.out
      have hbd : (cat4 rs).length ≤ 140737488355328 := by
        rw [HCe.out]; simp [cfL, Cf.l10, leL_length]
      have HJo := hid (join_or HO.out HBr.out (by have := HRn.out; omega) (by have := HRn.out; omega) hbd)
      clear hbd
      go_wp2_with (first | (go_at_call 38; refine HJo.out.mono ?_; rintro e w5 ⟨a5, n5, c5, rfl, hown5, hb5⟩; have HO5 := hid (hown5.mono (below_call HB.out HBr.out).size); have HB5 := hid (below_call (below_call HB.out HBr.out) hb5); clear hown5 hb5))
      go_ret
      exact ⟨a5, n5, c5, rfl, by rw [← HCe.out]; exact HO5.out, HB5.out⟩
end Go.Proofs.Ythfmmfphnimlnaa
