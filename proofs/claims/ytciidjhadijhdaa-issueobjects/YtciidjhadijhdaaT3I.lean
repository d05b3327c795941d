import Derived.Test.YtciidjhadijhdaaT2I
namespace Go.Proofs.Ytciidjhadijhdaa.H.I
open Go.RowKit
set_option linter.unusedVariables false

theorem back {h d N : Nat} (hh : h < N) (hd : d < N) : ((h + d) % N + N - h) % N = d := by
  rcases Nat.lt_or_ge (h + d) N with h1 | h1
  · rw [Nat.mod_eq_of_lt h1]
    have : h + d + N - h = d + N := by omega
    rw [this, Nat.add_mod_right, Nat.mod_eq_of_lt hd]
  · rw [Nat.mod_eq_sub_mod h1, Nat.mod_eq_of_lt (a := h + d - N) (by omega)]
    have : h + d - N + N - h = d := by omega
    rw [this, Nat.mod_eq_of_lt hd]
def OpenRel (w : World) (h N : Nat) (L : List Q) (s : Value) (w' : World) : Prop :=
  ∃ d : Nat, d < N ∧ s = .int .i64 (((h + d) % N : Nat) : Int) ∧ (∀ e, e < d → ∀ p : Q, L[(h + e) % N]? = some p → p.k = 1 ∨ p.k = 2) ∧ Below w.heap.size w w'
set_option maxRecDepth 100000 in
set_option maxHeartbeats 1000000 in
theorem open_any {w : World} {g gb kn mo : Nat} {li sp : Int} {N : Nat} {L : List Q} (h : Tm w g gb kn mo li sp N L) (hex : ∃ (i : Nat) (p : Q), L[i]? = some p ∧ p.k ≠ 1 ∧ p.k ≠ 2) (o : Int) (hi lo : Nat) (h1 : hi < B64) (h2 : lo < B64) :
    Calls Try.prog 80 #[.pointer (some ⟨g, 0, none⟩), .agg #[.int .i64 o, .int .u64 (hi : Int), .int .u64 (lo : Int)]] w fun e w' => (∃ (to_ d : Nat) (q : Q), d < N ∧ to_ = (hm kn N (o, hi, lo) + d) % N ∧ L[to_]? = some q ∧ q.k ≠ 1 ∧ q.k ≠ 2 ∧ (∀ e, e < d → ∀ p : Q, L[(hm kn N (o, hi, lo) + e) % N]? = some p → p.k = 1 ∨ p.k = 2) ∧ e = .returned (.int .i64 (to_ : Int))) ∧ Below w.heap.size w w' := by
  have HH := hid h
  have hpos := h.pos
  have hbig := h.big
  have hlen := hid h.len
  have hf := fun (W : World) (hW : Tm W g gb kn mo li sp N L) => first_any hW o hi lo h1 h2
  have hlt := hid (hm_lt (kn := kn) (o, hi, lo) hpos)
  generalize hm kn N (o, hi, lo) = hs at hf hlt ⊢
  obtain ⟨i0, p0, hp0, hk0, hk0'⟩ := hex
  obtain ⟨d0, hd0, hi0⟩ := far hlt.out (by rw [← hlen.out]; exact get_lt hp0 : i0 < N)
  have H0 : Hid (L[(hs + d0) % N]? = some p0) := by unfold Hid; rw [← hi0]; exact hp0
  clear h hp0 hi0
  go_enter Try.func80, Try.ntmps80
  go_upto_region 2 with (first | (go_at_call 83; refine (hf _ (HH.out.alloc _)).mono ?_; rintro e w2 ⟨rfl, hb2⟩; have HB2 := hid (below_call (below1 _ _) hb2); clear hb2))
  go_loopw [5] (OpenRel w hs N L) (fun t _ => N - ((intOf t).toNat + N - hs) % N)
  case atStart => exact ⟨0, by omega, by rw [Nat.add_zero, Nat.mod_eq_of_lt hlt.out], fun e he => absurd he (Nat.not_lt_zero _), HB2.out⟩
  case round =>
    obtain ⟨d, hd, rfl, hno, hB⟩ := hrel
    have HNo := hid hno
    clear hno
    have hT := HH.out.later hB
    have hm1 : (hs + d) % N < N := Nat.mod_lt _ hpos
    obtain ⟨p, hp⟩ := get_some (L := L) (i := (hs + d) % N) (by rw [hlen.out]; exact hm1)
    have c0 := (hT.at_ _ p hp).c0
    have y0 := hT.a0
    have hnx := hid (next_far hs d N)
    have HP := hid hp
    clear hp
    have HT := hid hT
    clear hT
    have hle : d ≤ d0 := by
      rcases Nat.lt_or_ge d0 d with h3 | h3
      · have := HNo.out d0 h3 p0 H0.out
        omega
      · exact h3
    have hback := hid (back hlt.out hd)
    generalize hat : (hs + d) % N = at_ at *
    have hme : p.k = 1 ∨ p.k = 2 ∨ (p.k ≠ 1 ∧ p.k ≠ 2) := by omega
    by_cases hkk : p.k = 1 ∨ p.k = 2
    · have hlt3 : d < d0 := by
        rcases Nat.lt_or_ge d d0 with h3 | h3
        · exact h3
        · obtain rfl : d = d0 := by omega
          have := H0.out
          rw [hat, HP.out] at this
          cases this
          omega
      have hfin : ∀ W, Below wr.heap.size wr W → OpenRel w hs N L (.int .i64 (((at_ : Int) + 1) % (N : Int))) W ∧ N - ((intOf (.int .i64 (((at_ : Int) + 1) % (N : Int)))).toNat + N - hs) % N < N - ((intOf (.int .i64 (at_ : Int))).toNat + N - hs) % N := by
        intro W hW
        have e1 : ((at_ : Int) + 1) % (N : Int) = (((hs + (d + 1)) % N : Nat) : Int) := by rw [← hnx.out]; simp
        rw [e1]
        refine ⟨⟨d + 1, by omega, rfl, ?_, below_call hB hW⟩, ?_⟩
        · intro e he q hq
          rcases Nat.lt_or_ge e d with h3 | h3
          · exact HNo.out e h3 q hq
          · obtain rfl : e = d := by omega
            rw [hat, HP.out] at hq
            cases hq
            exact hkk
        · simp only [intOf, Int.toNat_natCast]
          rw [back hlt.out (by omega), hback.out]
          omega
      have HF := hid hfin
      clear hfin hme
      rcases hkk with hk | hk
      · rw [hk] at c0
        go_wp2_with (first | (go_at_call 84; refine (next_any HT.out _ (by assumption)).mono ?_; rintro e w3 ⟨rfl, rfl⟩))
        exact HF.out _ (Below.refl _ _)
      · rw [hk] at c0
        go_wp2_with (first | (go_at_call 84; refine (next_any HT.out _ (by assumption)).mono ?_; rintro e w3 ⟨rfl, rfl⟩))
        exact HF.out _ (Below.refl _ _)
    · have hn1 : (p.k == 1) = false := by simp; omega
      have hn2 : (p.k == 2) = false := by simp; omega
      have HK := hid hkk
      clear hkk hme
      go_wp2
      go_ret
      exact ⟨⟨at_, d, p, hd, hat.symm, HP.out, fun h => HK.out (.inl h), fun h => HK.out (.inr h), HNo.out, rfl⟩, hB⟩
end Go.Proofs.Ytciidjhadijhdaa.H.I
