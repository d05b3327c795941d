import Derived.Test.YtaffgoacbiedlaaU8
namespace Go.Proofs.Ytaffgoacbiedlaa
open Go.RowKit
set_option linter.unusedVariables false
set_option linter.unusedSimpArgs false

theorem cz (w : World) : Cc w z41 (clz 0 0) := ⟨Sl.nil, Sl.nil, rfl, row_nil _, RI.nil _, by simp [clz], by simp [clz]⟩
theorem ps_gifts {R : List Nat} (hs : ∀ x ∈ R, x < 256) {c : Cl} (h : psC R = some c) : c.gifts.length ≤ 255 := by
  have hg := gs_ps hs
  rw [h] at hg
  split at hg
  · have := Option.some.inj hg
    rw [this]
    exact gs_gifts hs
  · cases hg
set_option maxRecDepth 100000 in
set_option maxHeartbeats 4000000 in
theorem parses_law (a : Option Addr) (n cap : Nat) (R : List Nat) (w : World) (h : Row w a n cap R) (hn : n ≤ 140737488355328) :
    Calls Try.prog 8 #[.slice a n cap] w fun e w' => e = .returned (.bool true) ∧ Below w.heap.size w w' := by
  obtain ⟨Z, hZl, hZo, hZz, hz⟩ := zero41
  have hZ0 : (Z.toArray = #[]) = False := by simp; intro h; rw [h] at hZl; simp at hZl
  have HR := hid h
  have HSM := hid h.small
  have HZO := hid hZo
  clear h hZo hZz
  cases hp : psC R with
  | some c =>
    have HP := hid hp
    have HS := hid (smB_self c)
    have HGC := hid (ps_gifts HSM.out hp)
    clear hp
    go_enter Try.func8, Try.ntmps8
    go_wp2_with (first | ((with_reducible refine ld_armg HLD5.out ?_ ?_ ?_); (· rfl); (· rfl)) | ((with_reducible refine ld_armg HLD4.out ?_ ?_ ?_); (· rfl); (· rfl)) | (go_at_call 23; refine (rparse_some a n cap R _ HR.out hn HP.out).mono ?_; rintro e w2 ⟨L, rfl, hc, hb2⟩; have hll := hc.len; obtain ⟨w3, hst3, hx3, hb3⟩ := store_new w2 (Z := Z) (t := 41) (hll.trans hZl.symm) hc.one; have HX3 := hid hx3; have HC3 := hid (hc.later hb3); have HB3 := hid (below_call hb2 hb3); clear hc hb2 hb3 hx3) | (go_at_call 16; refine (parse_some a n cap R _ (HR.out.later HB3.out) hn HP.out).mono ?_; rintro e w4 ⟨M, rfl, hc4, hb4⟩; have hml := hc4.len; obtain ⟨w5, hst5, hx5, hb5⟩ := store_new w4 (Z := Z) (t := 41) (hml.trans hZl.symm) hc4.one; have HX5 := hid hx5; have HC5 := hid (And.intro (hc4.cc.later hb5) ((HC3.out.later hb4).later hb5)); have HX35 := hid ((HX3.out.later hb4).later hb5); have HB5 := hid (below_call (below_call HB3.out hb4) hb5); clear hc4 hb4 hb5 hx5) | (go_at_call 12; refine (known_any _).mono ?_; rintro e w6 ⟨rfl, hb6⟩; have HLD4 := hid (ld41 (HX5.out.later hb6).range hml); have HLD5 := hid (ld41 (HX35.out.later hb6).range hll); have HC6 := hid (And.intro (HC5.out.1.later hb6) (HC5.out.2.later hb6)); have HB6 := hid (below_call HB5.out hb6); clear hb6) | (go_at_call 17; refine (same_any M L c c _ HC6.out.1 HC6.out.2 (Nat.le_trans HGC.out (by omega))).mono ?_; rintro e w7 ⟨rfl, hb7⟩; rw [HS.out]; have HB7 := hid (below_call HB6.out hb7); clear hb7))
    go_ret
    exact ⟨rfl, HB7.out⟩
  | none =>
    have HP := hid hp
    have HS := hid (smB_self (clz 0 0))
    have hzl : z41.length = 13 := rfl
    have HLO := hid (cz w).one
    clear hp
    generalize hzz : z41 = L at hzl HLO
    have HZZ := hid hzz
    clear hzz
    go_enter Try.func8, Try.ntmps8
    go_wp2_with (first | ((with_reducible refine ld_armg HLD5.out ?_ ?_ ?_); (· rfl); (· rfl)) | ((with_reducible refine ld_armg HLD4.out ?_ ?_ ?_); (· rfl); (· rfl)) | (go_at_call 23; refine (rparse_none a n cap R _ HR.out hn HP.out).mono ?_; rintro e w2 ⟨rfl, hb2⟩; rw [HZZ.out]; obtain ⟨w3, hst3, hx3, hb3⟩ := store_new w2 (Z := Z) (t := 41) (hzl.trans hZl.symm) HLO.out; have HX3 := hid hx3; have HB3 := hid (below_call hb2 hb3); clear hb2 hb3 hx3) | (go_at_call 16; refine (parse_none a n cap R _ (HR.out.later HB3.out) hn HP.out).mono ?_; rintro e w4 ⟨rfl, hb4⟩; rw [HZZ.out]; obtain ⟨w5, hst5, hx5, hb5⟩ := store_new w4 (Z := Z) (t := 41) (hzl.trans hZl.symm) HLO.out; have HX5 := hid hx5; have HX35 := hid ((HX3.out.later hb4).later hb5); have HB5 := hid (below_call (below_call HB3.out hb4) hb5); clear hb4 hb5 hx5) | (go_at_call 12; refine (known_any _).mono ?_; rintro e w6 ⟨rfl, hb6⟩; have HLD4 := hid (ld41 (HX5.out.later hb6).range hzl); have HLD5 := hid (ld41 (HX35.out.later hb6).range hzl); have HB6 := hid (below_call HB5.out hb6); clear hb6) | (go_at_call 17; refine (same_any L L (clz 0 0) (clz 0 0) _ (by rw [← HZZ.out]; exact cz _) (by rw [← HZZ.out]; exact cz _) (by simp [clz])).mono ?_; rintro e w7 ⟨rfl, hb7⟩; rw [HS.out]; have HB7 := hid (below_call HB6.out hb7); clear hb7))
    go_ret
    exact ⟨rfl, HB7.out⟩
end Go.Proofs.Ytaffgoacbiedlaa
