import Derived.Test.YtaffgoacbiedlaaU5
import Derived.Test.YtaffgoacbiedlaaU6
import Derived.Test.YtaffgoacbiedlaaTG
import Derived.Test.YtaffgoacbiedlaaR3
namespace Go.Proofs.Ytaffgoacbiedlaa
open Go.RowKit
set_option linter.unusedVariables false
set_option linter.unusedSimpArgs false

theorem sv_gt {R : List Nat} (hs : ∀ x ∈ R, x < 256) (p n : Nat) (hn : n ≤ 4) : sv (gt R p n) = (gt R p n : Int) := by
  have h1 := gt_lt hs p n
  have h2 : 256 ^ n ≤ 256 ^ 4 := Nat.pow_le_pow_right (by decide) hn
  exact sv_small (by omega)
theorem zlt : (0 : Nat) < 18446744073709551616 := by omega
theorem guess_any (a : Option Addr) (len cap : Nat) (R : List Nat) (w : World) (h : Row w a len cap R) (hl : len ≤ 140737488355328) :
    Calls Try.prog 42 #[.slice a len cap] w fun e w' => ∃ L, e = .returned (.agg L.toArray) ∧ Co w' w.heap.size L (gs R) ∧ Below w.heap.size w w' := by
  have hs := h.small
  have s0 := sv_gt hs 0 1 (by omega)
  have s1 := sv_gt hs 1 2 (by omega)
  have s34 := sv_gt hs 3 4 (by omega)
  have s32 := sv_gt hs 3 2 (by omega)
  have s31 := sv_gt hs 3 1 (by omega)
  have s27 := sv_gt hs 27 1 (by omega)
  have s11 := sv_gt hs 11 1 (by omega)
  have s28 := sv_gt hs 28 4 (by omega)
  have s324 := sv_gt hs 32 4 (by omega)
  have l34 : gt R 3 4 < 4294967296 := gt_lt hs 3 4
  have l28 : gt R 28 4 < 4294967296 := gt_lt hs 28 4
  have l32 : gt R 32 4 < 4294967296 := gt_lt hs 32 4
  have l31 : gt R 3 1 < 256 := gt_lt hs 3 1
  by_cases o1 : gt R 0 1 = 1
  · refine (guess1 a len cap R w h hl (gt R 1 2) (gt R 3 4) (by rw [s0, o1]; rfl) s1 s34 l34).mono ?_
    rintro e w' ⟨rfl, hb⟩
    have e : gs R = ⟨1, gt R 1 2, sI (gt R 3 4), 0, 0, 0, false, 0, 0, 0, [], 0, []⟩ := by unfold gs; rw [if_pos o1]
    rw [e]
    exact ⟨cC ⟨1, gt R 1 2, sI (gt R 3 4), 0, 0, 0, false, 0, 0, 0, [], 0, []⟩ Sl.nil Sl.nil, rfl, ⟨Sl.nil, Sl.nil, rfl, Own.nil _ _, OI.nil _ _, zlt, zlt⟩, hb⟩
  by_cases o2 : gt R 0 1 = 2
  · refine (guess2 a len cap R w h hl (gt R 1 2) (sv (gt R 3 8)) (by rw [s0, o2]; rfl) s1 rfl).mono ?_
    rintro e w' ⟨rfl, hb⟩
    have e : gs R = ⟨2, gt R 1 2, 0, sv (gt R 3 8), hiW R 11, loW R 11, false, 0, 0, 0, [], 0, []⟩ := by unfold gs; rw [if_neg o1, if_pos (.inl o2), o2]; rfl
    rw [e]
    exact ⟨cC ⟨2, gt R 1 2, 0, sv (gt R 3 8), hiW R 11, loW R 11, false, 0, 0, 0, [], 0, []⟩ Sl.nil Sl.nil, rfl, ⟨Sl.nil, Sl.nil, rfl, Own.nil _ _, OI.nil _ _, hiW_lt _ _, loW_lt _ _⟩, hb⟩
  by_cases o4 : gt R 0 1 = 4
  · refine (guess4 a len cap R w h hl (gt R 1 2) (sv (gt R 3 8)) (by rw [s0, o4]; rfl) s1 rfl).mono ?_
    rintro e w' ⟨rfl, hb⟩
    have e : gs R = ⟨4, gt R 1 2, 0, sv (gt R 3 8), hiW R 11, loW R 11, false, 0, 0, 0, [], 0, []⟩ := by unfold gs; rw [if_neg o1, if_pos (.inr (.inl o4)), o4]; rfl
    rw [e]
    exact ⟨cC ⟨4, gt R 1 2, 0, sv (gt R 3 8), hiW R 11, loW R 11, false, 0, 0, 0, [], 0, []⟩ Sl.nil Sl.nil, rfl, ⟨Sl.nil, Sl.nil, rfl, Own.nil _ _, OI.nil _ _, hiW_lt _ _, loW_lt _ _⟩, hb⟩
  by_cases o7 : gt R 0 1 = 7
  · refine (guess7 a len cap R w h hl (gt R 1 2) (sv (gt R 3 8)) (by rw [s0, o7]; rfl) s1 rfl).mono ?_
    rintro e w' ⟨rfl, hb⟩
    have e : gs R = ⟨7, gt R 1 2, 0, sv (gt R 3 8), hiW R 11, loW R 11, false, 0, 0, 0, [], 0, []⟩ := by unfold gs; rw [if_neg o1, if_pos (.inr (.inr o7)), o7]; rfl
    rw [e]
    exact ⟨cC ⟨7, gt R 1 2, 0, sv (gt R 3 8), hiW R 11, loW R 11, false, 0, 0, 0, [], 0, []⟩ Sl.nil Sl.nil, rfl, ⟨Sl.nil, Sl.nil, rfl, Own.nil _ _, OI.nil _ _, hiW_lt _ _, loW_lt _ _⟩, hb⟩
  have o247 : ¬ (gt R 0 1 = 2 ∨ gt R 0 1 = 4 ∨ gt R 0 1 = 7) := by omega
  by_cases o3 : gt R 0 1 = 3
  · refine (guess3 a len cap R w h hl (gt R 1 2) (sv (gt R 3 8)) (gt R 27 1) (by rw [s0, o3]; rfl) s1 rfl s27).mono ?_
    rintro e w' ⟨rfl, hb⟩
    have e : gs R = ⟨3, gt R 1 2, 0, sv (gt R 3 8), hiW R 11, loW R 11, false, gt R 27 1, 0, 0, [], 0, []⟩ := by unfold gs; rw [if_neg o1, if_neg o247, if_pos o3]
    rw [e]
    exact ⟨cC ⟨3, gt R 1 2, 0, sv (gt R 3 8), hiW R 11, loW R 11, false, gt R 27 1, 0, 0, [], 0, []⟩ Sl.nil Sl.nil, rfl, ⟨Sl.nil, Sl.nil, rfl, Own.nil _ _, OI.nil _ _, hiW_lt _ _, loW_lt _ _⟩, hb⟩
  by_cases o5 : gt R 0 1 = 5
  · by_cases hg : gt R 11 1 = 1
    · refine (guess5t a len cap R w h hl (gt R 1 2) (sv (gt R 3 8)) (gt R 11 1) (gt R 28 4) (gt R 32 4) (by rw [s0, o5]; rfl) s1 rfl s11 s28 s324 l28 l32 (by rw [hg]; rfl)).mono ?_
      rintro e w' ⟨rfl, hb⟩
      have e : gs R = ⟨5, gt R 1 2, 0, sv (gt R 3 8), hiW R 12, loW R 12, true, 0, sI (gt R 28 4), sI (gt R 32 4), [], 0, []⟩ := by unfold gs; rw [if_neg o1, if_neg o247, if_neg o3, if_pos o5, decide_eq_true hg]
      rw [e]
      exact ⟨cC ⟨5, gt R 1 2, 0, sv (gt R 3 8), hiW R 12, loW R 12, true, 0, sI (gt R 28 4), sI (gt R 32 4), [], 0, []⟩ Sl.nil Sl.nil, rfl, ⟨Sl.nil, Sl.nil, rfl, Own.nil _ _, OI.nil _ _, hiW_lt _ _, loW_lt _ _⟩, hb⟩
    · refine (guess5f a len cap R w h hl (gt R 1 2) (sv (gt R 3 8)) (gt R 11 1) (gt R 28 4) (gt R 32 4) (by rw [s0, o5]; rfl) s1 rfl s11 s28 s324 l28 l32 (by simp; omega)).mono ?_
      rintro e w' ⟨rfl, hb⟩
      have e : gs R = ⟨5, gt R 1 2, 0, sv (gt R 3 8), hiW R 12, loW R 12, false, 0, sI (gt R 28 4), sI (gt R 32 4), [], 0, []⟩ := by unfold gs; rw [if_neg o1, if_neg o247, if_neg o3, if_pos o5, decide_eq_false hg]
      rw [e]
      exact ⟨cC ⟨5, gt R 1 2, 0, sv (gt R 3 8), hiW R 12, loW R 12, false, 0, sI (gt R 28 4), sI (gt R 32 4), [], 0, []⟩ Sl.nil Sl.nil, rfl, ⟨Sl.nil, Sl.nil, rfl, Own.nil _ _, OI.nil _ _, hiW_lt _ _, loW_lt _ _⟩, hb⟩
  by_cases o6 : gt R 0 1 = 6
  · have e6 : ∀ g, decide (gt R 11 1 = 1) = g → gs R = ⟨6, gt R 1 2, 0, sv (gt R 3 8), hiW R 12, loW R 12, g, 0, sI (gt R 28 4), 0, R.drop 32, 0, []⟩ := fun g hg => by unfold gs; rw [if_neg o1, if_neg o247, if_neg o3, if_neg o5, if_pos o6, hg]
    by_cases hn : len ≤ 32
    · have hd : R.drop 32 = [] := by rw [List.drop_eq_nil_iff, h.len]; exact hn
      rw [hd] at e6
      by_cases hg : gt R 11 1 = 1
      · refine (guess6st a len cap R w h hl (gt R 1 2) (sv (gt R 3 8)) (gt R 11 1) (gt R 28 4) (by rw [s0, o6]; rfl) s1 rfl s11 s28 l28 (by rw [hg]; rfl) hn).mono ?_
        rintro e w' ⟨rfl, hb⟩
        rw [e6 true (decide_eq_true hg)]
        exact ⟨cC ⟨6, gt R 1 2, 0, sv (gt R 3 8), hiW R 12, loW R 12, true, 0, sI (gt R 28 4), 0, [], 0, []⟩ Sl.nil Sl.nil, rfl, ⟨Sl.nil, Sl.nil, rfl, Own.nil _ _, OI.nil _ _, hiW_lt _ _, loW_lt _ _⟩, hb⟩
      · refine (guess6sf a len cap R w h hl (gt R 1 2) (sv (gt R 3 8)) (gt R 11 1) (gt R 28 4) (by rw [s0, o6]; rfl) s1 rfl s11 s28 l28 (by simp; omega) hn).mono ?_
        rintro e w' ⟨rfl, hb⟩
        rw [e6 false (decide_eq_false hg)]
        exact ⟨cC ⟨6, gt R 1 2, 0, sv (gt R 3 8), hiW R 12, loW R 12, false, 0, sI (gt R 28 4), 0, [], 0, []⟩ Sl.nil Sl.nil, rfl, ⟨Sl.nil, Sl.nil, rfl, Own.nil _ _, OI.nil _ _, hiW_lt _ _, loW_lt _ _⟩, hb⟩
    · by_cases hg : gt R 11 1 = 1
      · refine (guess6lt a len cap R w h hl (gt R 1 2) (sv (gt R 3 8)) (gt R 11 1) (gt R 28 4) (by rw [s0, o6]; rfl) s1 rfl s11 s28 l28 (by rw [hg]; rfl) (by omega)).mono ?_
        rintro e w' ⟨a4, c4, rfl, hr, hb⟩
        rw [e6 true (decide_eq_true hg)]
        exact ⟨cC ⟨6, gt R 1 2, 0, sv (gt R 3 8), hiW R 12, loW R 12, true, 0, sI (gt R 28 4), 0, R.drop 32, 0, []⟩ ⟨a4, len - 32, c4⟩ Sl.nil, rfl, ⟨⟨a4, len - 32, c4⟩, Sl.nil, rfl, hr, OI.nil _ _, hiW_lt _ _, loW_lt _ _⟩, hb⟩
      · refine (guess6lf a len cap R w h hl (gt R 1 2) (sv (gt R 3 8)) (gt R 11 1) (gt R 28 4) (by rw [s0, o6]; rfl) s1 rfl s11 s28 l28 (by simp; omega) (by omega)).mono ?_
        rintro e w' ⟨a4, c4, rfl, hr, hb⟩
        rw [e6 false (decide_eq_false hg)]
        exact ⟨cC ⟨6, gt R 1 2, 0, sv (gt R 3 8), hiW R 12, loW R 12, false, 0, sI (gt R 28 4), 0, R.drop 32, 0, []⟩ ⟨a4, len - 32, c4⟩ Sl.nil, rfl, ⟨⟨a4, len - 32, c4⟩, Sl.nil, rfl, hr, OI.nil _ _, hiW_lt _ _, loW_lt _ _⟩, hb⟩
  by_cases o8 : gt R 0 1 = 8
  · refine (guess8 a len cap R w h hl (gt R 1 2) (gt R 3 2) (by rw [s0, o8]; rfl) s1 s32).mono ?_
    rintro e w' ⟨rfl, hb⟩
    have e : gs R = ⟨8, gt R 1 2, 0, 0, 0, 0, false, 0, 0, 0, [], gt R 3 2, []⟩ := by unfold gs; rw [if_neg o1, if_neg o247, if_neg o3, if_neg o5, if_neg o6, if_pos o8]
    rw [e]
    exact ⟨cC ⟨8, gt R 1 2, 0, 0, 0, 0, false, 0, 0, 0, [], gt R 3 2, []⟩ Sl.nil Sl.nil, rfl, ⟨Sl.nil, Sl.nil, rfl, Own.nil _ _, OI.nil _ _, zlt, zlt⟩, hb⟩
  by_cases o9 : gt R 0 1 = 9
  · refine (guess9 a len cap R w h hl (gt R 1 2) (gt R 3 1) (by rw [s0, o9]; rfl) s1 s31 l31).mono ?_
    rintro e w' ⟨x, c, rfl, hr, hb⟩
    have e : gs R = ⟨9, gt R 1 2, 0, 0, 0, 0, false, 0, 0, 0, [], 0, gg R (gt R 3 1)⟩ := by unfold gs; rw [if_neg o1, if_neg o247, if_neg o3, if_neg o5, if_neg o6, if_neg o8, if_pos o9]
    rw [e]
    exact ⟨cC ⟨9, gt R 1 2, 0, 0, 0, 0, false, 0, 0, 0, [], 0, gg R (gt R 3 1)⟩ Sl.nil ⟨x, gt R 3 1, c⟩, rfl, ⟨Sl.nil, ⟨x, gt R 3 1, c⟩, rfl, Own.nil _ _, hr, zlt, zlt⟩, hb⟩
  refine (guess0 a len cap R w h hl (gt R 0 1) (gt R 1 2) s0 s1 (by simp; omega) (by simp; omega) (by simp; omega) (by simp; omega) (by simp; omega) (by simp; omega) (by simp; omega) (by simp; omega) (by simp; omega)).mono ?_
  rintro e w' ⟨rfl, hb⟩
  have e : gs R = clz (gt R 0 1) (gt R 1 2) := by unfold gs; rw [if_neg o1, if_neg o247, if_neg o3, if_neg o5, if_neg o6, if_neg o8, if_neg o9]
  rw [e]
  exact ⟨cC (clz (gt R 0 1) (gt R 1 2)) Sl.nil Sl.nil, rfl, ⟨Sl.nil, Sl.nil, rfl, Own.nil _ _, OI.nil _ _, zlt, zlt⟩, hb⟩
theorem gs_gifts {R : List Nat} (hs : ∀ x ∈ R, x < 256) : (gs R).gifts.length ≤ 255 := by
  have l31 : gt R 3 1 < 256 := gt_lt hs 3 1
  unfold gs clz
  repeat' split
  all_goals simp only [List.length_nil, gg_length]
  all_goals omega
end Go.Proofs.Ytaffgoacbiedlaa
