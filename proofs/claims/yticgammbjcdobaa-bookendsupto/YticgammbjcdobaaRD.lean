import Derived.Test.YticgammbjcdobaaRC
namespace Go.Proofs.Yticgammbjcdobaa
open Go.RowKit Go.Shelf
set_option linter.unusedVariables false
set_option linter.unusedSimpArgs false
attribute [local go_sem] Oper.semAt_some
set_option maxRecDepth 100000 in
set_option maxHeartbeats 2000000 in
/-- The values of a map, one behind the other, handed to any body. -/
theorem vals_in {w : World} {mb : Option Nat} {es : Array MapEntry} {B0 : Nat} (hs : Src w mb es) (hv : ∀ e ∈ es.toList, ∃ t, RL e.val t) (hc : w.cell? ⟨B0, 0, none⟩ = some (.map mb)) (n : Nat) :
    SeqGives Fence.wide n Try.prog 50 #[.pointer (some ⟨B0, 0, none⟩)] (fun t : Tn => Tn.v t) (AllV es) es.size w := by
  intro L J W hW hJ hY h0
  replace hs := hs.later hW
  replace hc := cell_later hW hc
  obtain ⟨w0, hr0, hw0, hg0⟩ := hs.range Try.underlying82
  have hJ0 := hJ [] W w0 none h0 hg0 (fun r e => by cases e)
  have hle : W.heap.size ≤ W.heap.size := Nat.le_refl _
  generalize hN : W.heap.size = R at hr0 hw0 hle
  have HY := hid hY
  have HJ := hid hJ
  have HV := hid hv
  have HR0 := hid hr0
  rw [hN] at HJ
  clear hY hJ hv h0 hs hg0 hr0
  refine callsIn_of_wp Try.func50 rfl trivial ?_ rfl
  simp only [Try.ntmps50, List.size_toArray, List.length_cons, List.length_nil, Nat.reduceAdd, Nat.reduceSub, Array.replicate_succ, Array.replicate_zero, List.push_toArray, List.append_toArray, List.nil_append, List.cons_append]
  gi_wp2_with (first | (gi_at_range; refine wpListIn_range_known rfl _ _ rfl rfl HR0.out ?_) | gi_in)
  try go_frame
  gi_loopw [4] (fun _ wr => ∃ ps ts, Wk wr mb R es ps ∧ ps.map (·.val) = ts.map Tn.v ∧ J ts wr) (fun _ wr => leftN wr R es)
  case atStart => exact ⟨[], [], hw0, rfl, hJ0⟩
  case round =>
    obtain ⟨ps, ts, hk, hpt, hJs⟩ := hrel
    have HK := hid hk
    have HP := hid hpt
    rcases hk.next 0 with ⟨hall, hrun⟩ | ⟨e, w2, hrun, hk2, hlt, hg2, hem, hen⟩
    · have HRUN := hid hrun
      clear hrun hpt hk
      gi_wp2_with (first | (gi_at_next; refine wpListIn_next_known rfl _ rfl rfl HRUN.out ?_) | gi_in)
      go_end0
      exact ⟨⟨_, rfl⟩, ts, ⟨ps, HP.out, HK.out.nd, hall, by have := HK.out.len; omega⟩, hJs⟩
    · obtain ⟨t, ht⟩ := HV.out e hem
      have hkl : ts.length < es.size := by
        have h1 := hk2.len
        have h2 := congrArg List.length hpt
        simp only [List.length_append, List.length_map, List.length_cons, List.length_nil] at h1 h2
        omega
      have hpt2 : (ps ++ [e]).map (·.val) = (ts ++ [t]).map Tn.v := by rw [List.map_append, List.map_append, hpt]; simp [ht.1]
      have hJ2 : J ts w2 := HJ.out ts wr w2 (some R) hJs hg2 (fun r e => by cases e; exact ⟨hle, hk.walk⟩)
      have HK2 := hid hk2
      have HP2 := hid hpt2
      have HJ2 := hid (fun o => HJ.out ts w2 _ none hJ2 (World.grownBy_alloc w2 o none) (fun r e => by cases e))
      have HLT := hid hlt
      have HRUN := hid hrun
      rw [ht.1] at HRUN hen
      clear hrun hpt hk hg2 hk2 hpt2 hJ2 hJs hlt ht hem
      obtain ⟨fn, tmps, assign, body, hy, hR⟩ := HY.out ts t (w2.alloc (Obj.cells t.L.toArray 77)) (HJ2.out _) hkl
      gi_wp2_with (first | (gi_at_next; refine wpListIn_next_known rfl _ rfl rfl HRUN.out ?_) | gi_in)
      refine ⟨fun h => (by cases h), hR.mono ?_⟩
      rintro e' W3 ⟨rfl, hJ3, hk3⟩
      have hk4 := HK2.out.keeps ((KeepsWalks.alloc w2 _).trans hk3)
      gi_wp2
      go_roundw
      case rel => exact ⟨ps ++ [e], ts ++ [t], hk4, HP2.out, hJ3⟩
      case measure => rw [hk4.left, HK.out.left]; exact HLT.out
set_option maxHeartbeats 1000000 in
theorem values_in (mb : Option Nat) (n : Nat) (w : World) :
    CallsIn Fence.wide n Try.prog 36 #[.map mb] w fun e w' => e = .returned (.func (.func 50) #[] #[.pointer (some ⟨w.heap.size, 0, none⟩)]) ∧ w' = w.alloc (.cells #[.map mb] 82) := by
  refine callsIn_of_wp Try.func36 rfl trivial ?_ rfl
  simp only [Try.ntmps36, List.size_toArray, List.length_cons, List.length_nil, Nat.reduceAdd, Nat.reduceSub, Array.replicate_succ, Array.replicate_zero, List.push_toArray, List.append_toArray, List.nil_append, List.cons_append]
  gi_wp2
  go_ret
  exact ⟨rfl, rfl⟩
end Go.Proofs.Yticgammbjcdobaa
