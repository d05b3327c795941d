import Derived.Test.YtlelglfdamakaaaMP
namespace Go.Proofs.Ytlelglfdamakaaa
set_option linter.unusedVariables false

theorem nx_app_left {a b : List Int} {i : Nat} (h : i < a.length) : nx (a ++ b) i = nx a i := by unfold nx; rw [List.getElem?_append_left h]
theorem nx_app_right {a b : List Int} {i : Nat} (h : a.length ≤ i) : nx (a ++ b) i = nx b (i - a.length) := by
  unfold nx; rw [List.getElem?_append_right h]
theorem nx_cons (a : Int) (b : List Int) (i : Nat) : nx (a :: b) (i + 1) = nx b i := by simp [nx]
/-- Whose link leads to the i-th child. -/
theorem lk_at {m : Nat} {l : Fo} {N : List Nd} (h : Rep m l N) {p : Nat} {i : Nat} (hi : 0 < i) (hil : i ≤ (ch l p).length) : (ch l p)[i - 1]? = some ((lkN p (ch l p) i : Nat) : Int) := by
  cases i with
  | zero => omega
  | succ j =>
    have hr := h.ok.range _ (ch_mem (List.getElem_mem (l := ch l p) (n := j) (by omega)))
    rw [show j + 1 - 1 = j by omega, List.getElem?_eq_getElem (by omega)]
    show _ = some (((nx (ch l p) j).toNat : Nat) : Int)
    rw [nx_lt (by omega)]
    congr 1
    omega
theorem Rep.cutRoot {m : Nat} {l : Fo} {N : List Nd} (h : Rep m l N) {n : Nat} (hn : ((n : Int), -1) ∈ l) (hc : ch l n = []) : Rep m (cut l n) (N.set n nd0) := by
  have hch : ∀ q : Int, 0 ≤ q → ch (cut l n) q = ch l q := fun q hq => by
    rw [ch_cut]
    apply filter_out
    intro hk
    have := h.ok.uniq (mem_ch.1 hk) hn
    omega
  refine ⟨by rw [List.length_set]; exact h.len, h.ok.cut n hc, fun k x hx hk => ?_, fun k x p hx hp => ?_, fun k x hx hk => ?_, fun p hp i k x hi hx => ?_⟩
  · rcases get_set hx with ⟨_, rfl⟩ | ⟨hne, hx⟩
    · rfl
    · exact h.out k x hx (fun hk2 => hk (nums_cut.2 ⟨hk2, by omega⟩))
  · obtain ⟨hp1, hp2⟩ := mem_cut.1 hp
    simp only at hp2
    rcases get_set hx with ⟨rfl, rfl⟩ | ⟨hne, hx⟩
    · exact absurd rfl hp2
    · exact h.inn k x p hx hp1
  · obtain ⟨hk1, hk2⟩ := nums_cut.1 hk
    rcases get_set hx with ⟨rfl, rfl⟩ | ⟨hne, hx⟩
    · exact absurd rfl hk2
    · rw [hch _ (by omega)]
      exact h.fi k x hx hk1
  · have hk := (nums_cut.1 (ch_mem (List.mem_of_getElem? hi))).2
    rw [hch _ hp] at hi ⊢
    rcases get_set hx with ⟨rfl, rfl⟩ | ⟨hne, hx⟩
    · exact absurd rfl hk
    · exact h.be p hp i k x hi hx
theorem Rep.cut {m : Nat} {l : Fo} {N : List Nd} (h : Rep m l N) {n p i : Nat} (hi : (ch l p)[i]? = some (n : Int)) (hp0 : (p : Int) ∈ nums l) (hc : ch l n = []) :
    Rep m (cut l n) ((putL N p (ch l p) i (nx (ch l p) (i + 1))).set n nd0) := by
  have hn := mem_ch.1 (List.mem_of_getElem? hi)
  have hcn := h.ok.chNodup (p : Int)
  have hlk := @lk_at _ _ _ h p i
  obtain ⟨c, hcc⟩ : ∃ c, c = ch l p := ⟨_, rfl⟩
  rw [← hcc] at hi hcn hlk ⊢
  have hil := (List.getElem?_eq_some_iff.1 hi).1
  obtain ⟨c1, c2, hsp, hl1⟩ : ∃ c1 c2, c = c1 ++ (n : Int) :: c2 ∧ c1.length = i := by
    refine ⟨c.take i, c.drop (i + 1), ?_, by rw [List.length_take]; omega⟩
    have h1 := List.getElem?_eq_some_iff.1 hi
    obtain ⟨h2, h3⟩ := h1
    rw [← h3, List.getElem_cons_drop, List.take_append_drop]
  have hpn : p ≠ n := by
    intro e
    subst e
    rw [← hcc] at hc
    rw [hc] at hil
    exact absurd hil (Nat.not_lt_zero _)
  have hch : ∀ q : Int, q ≠ p → ch (Go.Proofs.Ytlelglfdamakaaa.cut l n) q = ch l q := fun q hq => by
    rw [ch_cut]
    apply filter_out
    intro hk
    exact hq (h.ok.uniq (mem_ch.1 hk) hn)
  have hchp : ch (Go.Proofs.Ytlelglfdamakaaa.cut l n) p = c1 ++ c2 := by
    rw [ch_cut, ← hcc, hsp]
    rw [hsp] at hcn
    exact filter_in hcn
  refine ⟨by rw [List.length_set, putL_len]; exact h.len, h.ok.cut n hc, fun k x hx hk => ?_, fun k x q hx hq => ?_, fun k x hx hk => ?_, fun q hq j k x hj hx => ?_⟩
  · rcases get_set hx with ⟨_, rfl⟩ | ⟨hne, hx⟩
    · rfl
    · have hkl : (k : Int) ∉ nums l := fun hk2 => hk (nums_cut.2 ⟨hk2, by omega⟩)
      obtain ⟨y, hy, h1, h2, h3, h4⟩ := put_get hx
      rw [if_neg (fun e => hkl (by rw [e.2]; exact hp0))] at h3
      rw [if_neg (fun e => hkl (by rw [e.2]; have := List.mem_of_getElem? (hlk e.1 (by omega)); rw [hcc] at this; rw [hcc]; exact ch_mem this))] at h4
      have := h.out k y hy hkl
      subst this
      obtain ⟨a, b, c, d⟩ := x
      simp only at h1 h2 h3 h4
      subst h1 h2 h3 h4
      rfl
  · obtain ⟨hp1, hp2⟩ := mem_cut.1 hq
    simp only at hp2
    rcases get_set hx with ⟨rfl, rfl⟩ | ⟨hne, hx⟩
    · exact absurd rfl hp2
    · obtain ⟨y, hy, h1, h2, _, _⟩ := put_get hx
      rw [h1, h2]
      exact h.inn k y q hy hp1
  · obtain ⟨hk1, hk2⟩ := nums_cut.1 hk
    rcases get_set hx with ⟨rfl, rfl⟩ | ⟨hne, hx⟩
    · exact absurd rfl hk2
    · obtain ⟨y, hy, _, _, h3, _⟩ := put_get hx
      rw [h3]
      by_cases hkp : k = p
      · subst hkp
        rw [hchp]
        by_cases hi0 : i = 0
        · have hc1 : c1 = [] := List.eq_nil_of_length_eq_zero (by omega)
          rw [if_pos ⟨hi0, rfl⟩, hi0, hsp, hc1]
          rfl
        · rw [if_neg (fun e => hi0 e.1), h.fi k y hy hp0, ← hcc, hsp, nx_app_left (by omega), nx_app_left (by omega)]
      · rw [if_neg (fun e => hkp e.2), hch _ (by omega)]
        exact h.fi k y hy hk1
  · have hkn := (nums_cut.1 (ch_mem (List.mem_of_getElem? hj))).2
    rcases get_set hx with ⟨rfl, rfl⟩ | ⟨hne, hx⟩
    · exact absurd rfl hkn
    · obtain ⟨y, hy, _, _, _, h4⟩ := put_get hx
      rw [h4]
      by_cases hqp : q = p
      · subst hqp
        rw [hchp] at hj ⊢
        by_cases hj1 : j < c1.length
        · rw [List.getElem?_append_left hj1] at hj
          have hjc : c[j]? = some (k : Int) := by rw [hsp, List.getElem?_append_left hj1]; exact hj
          by_cases hj2 : j + 1 = i
          · have hk3 := hlk (by omega) (by omega)
            rw [← hj2] at hk3
            rw [show j + 1 - 1 = j by omega, hjc] at hk3
            have hk4 := Option.some.inj hk3
            rw [if_pos ⟨by omega, by rw [← hj2]; omega⟩, nx_app_right (by omega), hsp, nx_app_right (by omega), show i + 1 - c1.length = 0 + 1 by omega, nx_cons, show j + 1 - c1.length = 0 by omega]
          · rw [if_neg, h.be p (by omega) j k y (hcc ▸ hjc) hy, ← hcc, hsp, nx_app_left (by omega), nx_app_left (by omega)]
            rintro ⟨h5, h6⟩
            have := hlk h5 (by omega)
            rw [← h6] at this
            have := nd_idx hcn hjc this
            omega
        · rw [List.getElem?_append_right (by omega)] at hj
          have hjc : c[j + 1]? = some (k : Int) := by
            rw [hsp, List.getElem?_append_right (by omega), show j + 1 - c1.length = (j - c1.length) + 1 by omega]
            exact hj
          rw [if_neg, h.be p (by omega) (j + 1) k y (hcc ▸ hjc) hy, ← hcc, hsp, nx_app_right (by omega), nx_app_right (by omega), show j + 1 + 1 - c1.length = (j + 1 - c1.length) + 1 by omega, nx_cons]
          rintro ⟨h5, h6⟩
          have := hlk h5 (by omega)
          rw [← h6] at this
          have := nd_idx hcn hjc this
          omega
      · rw [hch q hqp] at hj ⊢
        rw [if_neg]
        · exact h.be q hq j k y hj hy
        · rintro ⟨h5, h6⟩
          have := List.mem_of_getElem? (hlk h5 (by omega))
          rw [← h6, hcc] at this
          exact hqp (h.ok.uniq (mem_ch.1 (List.mem_of_getElem? hj)) (mem_ch.1 this))
end Go.Proofs.Ytlelglfdamakaaa
