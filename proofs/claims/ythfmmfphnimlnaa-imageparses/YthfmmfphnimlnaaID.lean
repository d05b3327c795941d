import Derived.Test.YthfmmfphnimlnaaIC
namespace Go.Proofs.Ythfmmfphnimlnaa
open Go.RowKit
set_option linter.unusedVariables false
def lid (O : List Ob) : Int := match O.getLast? with | none => 0 | some o => o.id
theorem obS_ids : ∀ (O : List Ob) (l p r : Int), obS O l p = some r → (∀ o ∈ O, l ≤ o.id ∧ o.id ≤ MI ∧ o.id ≤ lid O) ∧ (O ≠ [] → l ≤ lid O ∧ lid O ≤ MI)
  | [], l, p, r, _ => ⟨fun o h => (by cases h), fun h => absurd rfl h⟩
  | [x], l, p, r, h => by
    rw [obS_cons] at h
    by_cases hc : (wi x.id l MI && decide (x.b.length ≤ 4096)) = true
    · rw [Bool.and_eq_true, wi_iff] at hc
      refine ⟨fun o ho => ?_, fun _ => ⟨hc.1.1, hc.1.2⟩⟩
      rw [List.mem_singleton.1 ho]
      exact ⟨hc.1.1, hc.1.2, Int.le_refl _⟩
    · rw [if_neg hc] at h; cases h
  | x :: y :: O, l, p, r, h => by
    rw [obS_cons] at h
    by_cases hc : (wi x.id l MI && decide (x.b.length ≤ 4096)) = true
    · rw [if_pos hc] at h
      rw [Bool.and_eq_true, wi_iff] at hc
      obtain ⟨h1, h2⟩ := obS_ids (y :: O) _ _ _ h
      have h3 := h2 (by simp)
      have e : lid (x :: y :: O) = lid (y :: O) := by simp [lid, List.getLast?_cons_cons]
      rw [e]
      refine ⟨fun o ho => ?_, fun _ => ⟨by omega, h3.2⟩⟩
      rcases List.mem_cons.1 ho with rfl | ho
      · exact ⟨hc.1.1, hc.1.2, by omega⟩
      · have := h1 o ho
        exact ⟨by omega, this.2.1, this.2.2⟩
    · rw [if_neg hc] at h; cases h
theorem lid_mem {O : List Ob} (h : O ≠ []) : ∃ o ∈ O, o.id = lid O := ⟨O.getLast h, List.getLast_mem h, by simp [lid, List.getLast?_eq_some_getLast h]⟩
theorem nxt_of {s : St} {r : Int} (h : obS s.O 1 0 = some r) : nxtB s = wi s.nx (lid s.O + 1) (MI + 1) := by
  obtain ⟨h1, h2⟩ := obS_ids _ _ _ _ h
  rw [Bool.eq_iff_iff]
  unfold nxtB
  rw [Bool.and_eq_true, wi_iff, wi_iff, List.all_eq_true]
  by_cases hO : s.O = []
  · have : lid s.O = 0 := by rw [hO]; rfl
    rw [this, hO]
    simp
  · have h3 := h2 hO
    obtain ⟨o, ho, e⟩ := lid_mem hO
    constructor
    · rintro ⟨h4, h5⟩
      have := h5 o ho
      simp only [decide_eq_true_eq] at this
      omega
    · rintro ⟨h4, h5⟩
      refine ⟨by omega, fun x hx => ?_⟩
      have := (h1 x hx).2.2
      simp only [decide_eq_true_eq]
      omega
theorem objB_some {c : Cf} {O : List Ob} (h : objB c O = true) : ∃ r, obS O 1 0 = some r ∧ r ≤ c.p ∧ (O.length : Int) ≤ c.o := by
  unfold objB at h
  rw [Bool.and_eq_true] at h
  cases e : obS O 1 0 with
  | none => rw [e] at h; simp [oLe] at h
  | some r => rw [e] at h; simp [oLe] at h; exact ⟨r, rfl, h.2, h.1⟩
set_option maxRecDepth 100000 in
set_option maxHeartbeats 4000000 in
theorem nextIdHolds_any (s : St) (a b d : Sl) (Q : List (Ob × Sl)) (R : List (Pc × Sl)) (w : World) (h : Sm w s a b d Q R) (c : Cf) (ho : objB c s.O = true) :
    Calls Try.prog 48 #[stV a b d s.nx s.px s.ta] w fun e w' => e = .returned (.bool (nxtB s)) ∧ Below w.heap.size w w' := by
  obtain ⟨r, hr, _, _⟩ := objB_some ho
  have HN := hid (nxt_of hr)
  have HI := hid (obS_ids _ _ _ _ hr)
  obtain ⟨W, hW⟩ : ∃ W, W = w.alloc (Obj.cells #[.slice a.a a.n a.c, .slice b.a b.n b.c, .slice d.a d.n d.c, .int .i64 s.nx, .int .i64 s.px, .int .i64 s.ta] 28) := ⟨_, rfl⟩
  have hB : Below w.heap.size w W := by rw [hW]; exact below1 _ _
  have x0 : W.cell? ⟨w.heap.size, 0, none⟩ = some (.slice a.a a.n a.c) := by rw [hW]; simp [go_sem]
  have x3 : W.cell? ⟨w.heap.size, 3, none⟩ = some (.int .i64 s.nx) := by rw [hW]; simp [go_sem]
  have HM := hid (h.later hB)
  have hma := h.ma
  have HB := hid hB
  have HW := hid hW
  have HWi := hid within_any
  have hlen : s.O.length = a.n := by rw [← h.eo]; have := h.o.len; simpa using this
  clear h hB hW hr ho
  obtain ⟨aa, an, ac⟩ := a
  simp only at hma hlen x0 HW HM ⊢
  by_cases hn : 0 < an
  · have hd : decide (0 < (an : Int)) = true := by simp; omega
    have hO : s.O ≠ [] := by intro e; rw [e] at hlen; simp at hlen; omega
    obtain ⟨q, hq⟩ : ∃ q, Q[an - 1]? = some q := ⟨_, List.getElem?_eq_getElem (by have := HM.out.eo; have := congrArg List.length this; simp at this; omega)⟩
    obtain ⟨g, o, rfl, hrg⟩ := HM.out.o.at_ (an - 1) (encO q) (by rw [List.getElem?_map, hq]; rfl)
    have hl : lid s.O = q.1.id := by
      have e : s.O[an - 1]? = some q.1 := by rw [← HM.out.eo, List.getElem?_map, hq]; rfl
      unfold lid
      rw [List.getLast?_eq_getElem?, hlen, e]
    have hb := HI.out.2 hO
    rw [hl] at HN hb
    have y0 := hrg 0 _ rfl
    simp only [Nat.add_zero] at y0
    obtain ⟨⟨qi, qb⟩, qs⟩ := q
    simp only at y0 hb HN
    have HB2 := hid hb
    clear hrg hq hl hb hO
    obtain ⟨m, rfl⟩ : ∃ m, an = m + 1 := ⟨an - 1, by omega⟩
    rw [show m + 1 - 1 = m by omega] at y0
    go_enter Try.func48, Try.ntmps48
    go_upto_region 1 with fail
    rw [← HW.out]
    go_upto_region 5 with fail
    have hb := HB2.out
    have hMI : MI = 4611686018427387904 := rfl
    have e1 : wrap64 (qi + 1) = qi + 1 := by unfold wrap64; omega
    rw [e1]
    clear e1 hb hMI
    go_wp2_with (first | (go_at_call 53; refine (HWi.out _ _ _ _).mono ?_; rintro e w1 ⟨rfl, rfl⟩))
    go_ret
    exact ⟨ret_bool HN.out.symm, HB.out⟩
  · obtain rfl : an = 0 := by omega
    have hO : s.O = [] := List.eq_nil_of_length_eq_zero hlen
    have hl : lid s.O = 0 := by rw [hO]; rfl
    rw [hl] at HN
    go_enter Try.func48, Try.ntmps48
    go_upto_region 1 with fail
    rw [← HW.out]
    go_wp2_with (first | (go_at_call 53; refine (HWi.out _ _ _ _).mono ?_; rintro e w1 ⟨rfl, rfl⟩))
    go_ret
    exact ⟨ret_bool HN.out.symm, HB.out⟩
end Go.Proofs.Ythfmmfphnimlnaa
