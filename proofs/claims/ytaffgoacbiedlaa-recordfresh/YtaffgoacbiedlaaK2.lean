import Derived.Test.YtaffgoacbiedlaaK1
namespace Go.Proofs.Ytaffgoacbiedlaa
open Go.RowKit
set_option linter.unusedVariables false
set_option linter.unusedSimpArgs false

def LgRel (w : World) (n : Nat) (G : List Int) (l t : Value) (w' : World) : Prop :=
  ∃ (i : Nat) (a : Option Addr) (c : Nat) (rs : List R4), i ≤ n ∧ t = .int .i64 (i : Int) ∧ l = .slice a (1 + i) c ∧ OR w w' a (1 + i) c rs ∧ cat4 rs = leL n 1 ++ g2 (G.take i) ∧ Below w.heap.size w w'
set_option maxRecDepth 100000 in
set_option maxHeartbeats 2000000 in
theorem layGifts_any (a : Option Addr) (n cap : Nat) (G : List Int) (w : World) (h : RI w a n cap G) (hg : gfB G = true) :
    Calls Try.prog 86 #[.slice a n cap] w fun e w' => ∃ a' n' c', e = .returned (.slice a' n' c') ∧ Own w' w.heap.size a' n' c' (leL G.length 1 ++ g2 G) ∧ Below w.heap.size w w' := by
  have hlen := h.len
  simp only [gfB, Bool.and_eq_true, decide_eq_true_eq, List.all_eq_true, wi_iff] at hg
  obtain ⟨hg1, hg2⟩ := hg
  have hn : n ≤ 255 := by omega
  have e1 : IntKind.u8.wrap (n : Int) = (n : Int) := by rw [IntKind.wrap_u8]; omega
  have H := hid h
  have HG := hid hg2
  have HL := hid hlen
  clear h hg2 hg1 hlen
  go_enter Try.func86, Try.ntmps86
  go_upto_region 2 with (first | (go_at_call 59; refine (p8 n (by omega) _).mono ?_; rintro e w1 ⟨a1, c1, rfl, hown, hb1⟩))
  have R0 : Hid (LgRel w n G (.slice (some ⟨w1.heap.size, 0, none⟩) (1 + 0) 1) (.int .i64 0) (w1.alloc (Obj.cells #[.slice a1 1 c1] 28))) := ⟨0, _, 1, _, by omega, rfl, rfl, OR.one (.inr hown) hb1, by simp [cat4, g2], below_call hb1 (below1 _ _)⟩
  clear hown hb1
  go_upto_region 3 with fail
  go_loopw [3, 13] (LgRel w n G) (fun _ t _ => n - (intOf t).toNat)
  case atStart => exact R0.out
  case round =>
    clear R0
    obtain ⟨i, b, c, rs, hi, rfl, rfl, hor, hcat, hbw⟩ := hrel
    have ei : IntKind.i64.wrap ((i : Int) + 1) = (i : Int) + 1 := by rw [IntKind.wrap_i64]; omega
    by_cases hlt : i < n
    · have hdi : decide ((i : Int) < (n : Int)) = true := by simp; omega
      obtain ⟨gb, o, rfl, hc⟩ := H.out.plain (by omega)
      have hiG : i < G.length := by have := HL.out; omega
      have hcell := cell_later hbw (hc i hiG)
      have hgi := HG.out _ (List.getElem_mem hiG)
      have HT : Hid (g2 (G.take (i + 1)) = g2 (G.take i) ++ leL (G[i].toNat) 2) := by unfold Hid; rw [List.take_succ_eq_append_getElem hiG, g2_append, g2_one]
      generalize G[i] = x at hcell hgi HT
      obtain ⟨m, rfl⟩ : ∃ m : Nat, x = (m : Int) := ⟨x.toNat, by omega⟩
      rw [Int.toNat_natCast] at HT
      have e2 : IntKind.u16.wrap (m : Int) = (m : Int) := by rw [IntKind.wrap_u16]; omega
      have hm : m < 65536 := by omega
      have HOR := hid hor
      have HBW := hid hbw
      have HM := hid hm
      have HCAT := hid hcat
      clear hor hbw hc hgi hm hcat
      go_upto_region 5 with fail
      go_wp2_with (first | (go_at_call 46; refine (p16 m HM.out _).mono ?_; rintro e w2 ⟨a2, c2, rfl, hown2, hb2⟩; obtain ⟨a3, c3, w3, hrun, hor3, hbw3, _, _⟩ := append_row (HOR.out.later hb2) (.inr (hown2.mono HBW.out.size)) (below_call HBW.out hb2) (by omega); have HRUN := hid hrun; have HOR3 := hid hor3; have HB3 := hid hbw3; clear hrun hor3 hbw3 hown2 hb2) | (at_builtin; refine wpList_append_known rfl _ _ 49 rfl _ _ rfl rfl _ w3 HRUN.out ?_))
      go_roundw
      case rel => exact ⟨i + 1, a3, c3, _, by omega, by go_num, rfl, HOR3.out, by rw [cat4_append, HCAT.out, HT.out]; simp [cat4], HB3.out⟩
      case measure => simp [intOf]; omega
    · obtain rfl : i = n := by omega
      have HX : Hid (cat4 rs = leL G.length 1 ++ g2 G) := by
        unfold Hid
        rw [hcat, List.take_of_length_le (by have := HL.out; omega), HL.out]
      have hle : (cat4 rs).length ≤ 140737488355328 := by
        rw [HX.out, List.length_append, leL_length, g2_length]
        have := HL.out
        omega
      have HJ := hid (join_or hor hbw (by omega) (by omega) hle)
      have HBW := hid hbw
      clear hor hbw hcat hle
      go_wp2_with (first | (go_at_call 47; refine HJ.out.mono ?_; rintro e w2 ⟨a2, n2, c2, rfl, hown2, hb2⟩))
      go_ret
      exact ⟨_, _, _, rfl, by rw [← HX.out]; exact hown2.mono HBW.out.size, below_call HBW.out hb2⟩
end Go.Proofs.Ytaffgoacbiedlaa
