import Derived.Test.YtgdhdfmgfncdkaaV3
namespace Go.Proofs.Ytgdhdfmgfncdkaa
open Go.RowKit H
set_option linter.unusedVariables false

/-! ### forget -/
theorem wr_in {A : Ad} {k : Nat} (h : I.In A.tg A.tb k) : A.Wr k := by
  rcases h with rfl | rfl
  · exact .inl rfl
  · exact .inr (.inl rfl)
set_option maxRecDepth 100000 in
set_option maxHeartbeats 2000000 in
theorem forget_of {w : World} {A : Ad} {kn mo : Nat} {T T' : List (Cp × Int)} {X : List Tk} {l : Fo} (h : Cm w A kn mo T X l) (n : Nat) (hn : n < mo) (o : Int) (hi lo : Nat) (r : Int) (hx : tk X (n : Int) = ((o, hi, lo), r))
    (hG : ∀ W, Below w.heap.size w W → Calls Try.prog 52 #[.pointer (some ⟨A.tg, 0, none⟩), .agg #[.int .i64 o, .int .u64 (hi : Int), .int .u64 (lo : Int)]] W (fun e w' => (∃ b, e = .returned (.bool b)) ∧ I.Tb w' A.tg A.tb kn mo A.N T' ∧ But (I.In A.tg A.tb) W w')) :
    Calls Try.prog 31 #[.pointer (some ⟨A.g, 0, none⟩), .int .i64 (n : Int)] w fun e w' => e = .returned (cpV (o, hi, lo)) ∧ Cm w' A kn mo T' (X.set n tz) l ∧ But A.Wr w w' := by
  have hl := h.lt
  have hE := h.at_ hn
  rw [hx] at hE
  obtain ⟨w0, hw0⟩ : ∃ w0, w0 = w.alloc (Obj.cells #[.int .i64 0, .int .u64 0, .int .u64 0] 33) := ⟨_, rfl⟩
  have hB0 : Below w.heap.size w w0 := by rw [hw0]; exact below1 _ _
  have x0 := cell_later hB0 h.c0
  have x1 := cell_later hB0 h.c1
  obtain ⟨e0, e1, e2, e3⟩ := hE.later hB0
  simp only at e0 e1 e2 e3
  have hlt0 : w.heap.size < w0.heap.size := by rw [hw0]; simp
  obtain ⟨w1, hw1⟩ : ∃ w1, w1 = w0.alloc (Obj.cells #[.int .i64 o, .int .u64 (hi : Int), .int .u64 (lo : Int)] 33) := ⟨_, rfl⟩
  have hB01 : Below w0.heap.size w0 w1 := by rw [hw1]; exact below1 _ _
  have hB1 : Below w.heap.size w w1 := below_call hB0 hB01
  have hni : ∀ k, I.In A.tg A.tb k → k < w.heap.size := by
    rintro k (rfl | rfl)
    · exact hl _ (.inr (.inr (.inl rfl)))
    · exact hl _ (.inr (.inr (.inr (.inl rfl))))
  have hng : ¬ I.In A.tg A.tb A.g := by rintro (e | e); exact h.dis.d1 e.symm; exact h.dis.d2 e.symm
  have hns : ¬ I.In A.tg A.tb w.heap.size := fun hs => by have := hni _ hs; omega
  have hns1 : ¬ I.In A.tg A.tb w0.heap.size := fun hs => by have := hni _ hs; omega
  have hC : Hid (∀ U : World, But (I.In A.tg A.tb) w1 U → (U.cell? ⟨w0.heap.size, 0, none⟩ = some (.int .i64 o) ∧ U.cell? ⟨w0.heap.size, 1, none⟩ = some (.int .u64 (hi : Int)) ∧ U.cell? ⟨w0.heap.size, 2, none⟩ = some (.int .u64 (lo : Int)) ∧ U.cell? ⟨A.g, 0, none⟩ = some (.pointer (some ⟨A.tg, 0, none⟩))) ∧ But (I.In A.tg A.tb) w1 U) := fun U hU =>
    ⟨⟨cell_but hU (by rw [hw1]; simp [go_sem]) hns1, cell_but hU (by rw [hw1]; simp [go_sem]) hns1, cell_but hU (by rw [hw1]; simp [go_sem]) hns1, cell_but hU (cell_later hB01 x0) hng⟩, hU⟩
  have hL0 : Lies w0 ⟨w.heap.size, 0, none⟩ (.int .i64 0) ∧ Lies w0 ⟨w.heap.size, 1, none⟩ (.int .u64 0) ∧ Lies w0 ⟨w.heap.size, 2, none⟩ (.int .u64 0) := by
    rw [hw0]; exact ⟨⟨by simp [go_sem], by simp [go_sem]⟩, ⟨by simp [go_sem], by simp [go_sem]⟩, ⟨by simp [go_sem], by simp [go_sem]⟩⟩
  have hD : Hid (∀ U : World, But (I.In A.tg A.tb) w1 U → Lies U ⟨w.heap.size, 0, none⟩ (.int .i64 0) ∧ Lies U ⟨w.heap.size, 1, none⟩ (.int .u64 0) ∧ Lies U ⟨w.heap.size, 2, none⟩ (.int .u64 0)) := fun U hU =>
    ⟨(hL0.1.later hB01).but hU hns, (hL0.2.1.later hB01).but hU hns, (hL0.2.2.later hB01).but hU hns⟩
  have HG := hid (fun (U : World) (hU : Below w1.heap.size w1 U) => hG U (below_call hB1 hU))
  have HB1 := hid hB1
  have HH := hid h
  have hmo := h.small
  have hse : ¬ w.heap.size = A.eb := by have := h.lte; omega
  have hse1 : ¬ w0.heap.size = A.eb := by have := h.lte; omega
  have hge : ¬ A.g = A.eb := fun e => h.dis.d3 e.symm
  have hslt : ¬ w.heap.size = w0.heap.size := by omega
  clear hG hB1 h hni hng hns hns1 hl hx hE hL0 hB01 hB0 hlt0
  go_enter Try.func31, Try.ntmps31
  go_upto_region 1 with fail
  rw [← hw0]
  clear hw0
  go_upto_region 2 with fail
  rw [← hw1]
  clear hw1 x0 x1 e0 e1 e2 e3
  go_region_held3 (fun U => (U.cell? ⟨w0.heap.size, 0, none⟩ = some (.int .i64 o) ∧ U.cell? ⟨w0.heap.size, 1, none⟩ = some (.int .u64 (hi : Int)) ∧ U.cell? ⟨w0.heap.size, 2, none⟩ = some (.int .u64 (lo : Int)) ∧ U.cell? ⟨A.g, 0, none⟩ = some (.pointer (some ⟨A.tg, 0, none⟩))) ∧ But (I.In A.tg A.tb) w1 U) (first | exact hC.out _ HB2.out | exact hC.out _ (But.of (Below.refl _ _).drew)) (first
    | (go_at_call 52; refine (HG.out _ (Below.refl _ _).drew).mono ?_; rintro e w2 ⟨⟨b, rfl⟩, ht2, hb2⟩; have HB2 := hid ((But.of (S := I.In A.tg A.tb) (Below.refl w1.heap.size w1).drew).trans hb2); have HT2 := hid ht2; clear hb2 ht2))
  obtain ⟨⟨y0, y1, y2, _⟩, _⟩ := hC.out _ HB2.out
  obtain ⟨⟨r0, q0⟩, ⟨r1, q1⟩, ⟨r2, q2⟩⟩ := hD.out _ HB2.out
  have hM := (HH.out.later HB1.out).setT HB2.out HT2.out
  have z1 := hM.c1
  obtain ⟨p0, p1, p2, p3⟩ := hM.at_ hn
  have hfr := hM.fr
  have hfin : ∀ W : World, W = (((setE w2 A.eb (n * 4) tz).setCell ⟨w.heap.size, 0, none⟩ (.int .i64 o)).setCell ⟨w.heap.size, 1, none⟩ (.int .u64 (hi : Int))).setCell ⟨w.heap.size, 2, none⟩ (.int .u64 (lo : Int)) → Cm W A kn mo T' (X.set n tz) l ∧ But A.Wr w W := by
    rintro W rfl
    have hb : But (· = w.heap.size) (setE w2 A.eb (n * 4) tz) ((((setE w2 A.eb (n * 4) tz).setCell ⟨w.heap.size, 0, none⟩ (.int .i64 o)).setCell ⟨w.heap.size, 1, none⟩ (.int .u64 (hi : Int))).setCell ⟨w.heap.size, 2, none⟩ (.int .u64 (lo : Int))) :=
      (((But.refl (· = w.heap.size) _).setCell (p := ⟨w.heap.size, 0, none⟩) rfl _).setCell (p := ⟨w.heap.size, 1, none⟩) rfl _).setCell (p := ⟨w.heap.size, 2, none⟩) rfl _
    refine ⟨(hM.setX hn _).but hb (fun k hk e => by have := HH.out.lt k hk; omega), But.comp (setE_but ((But.of HB1.out).trans (HB2.out.mono fun k hk => wr_in hk)) (.inr (.inr (.inl rfl))) _ _) hb (fun i e => .inr (by omega))⟩
  have HF := hid hfin
  clear hM hfin
  go_wp2
  exact bodyPost_ret (v := cpV (o, hi, lo)) (by simp [results, Try.results31, go_sem, r0, r1, r2]) rfl ⟨rfl, HF.out _ rfl⟩
/-- The pairs of all other capabilities. -/
def dropT (T : List (Cp × Int)) (c : Cp) : List (Cp × Int) := T.filter (fun e => decide (e.1 ≠ c))
theorem dropT_perm : ∀ {T : List (Cp × Int)} {c : Cp} {v : Int}, (T.map Prod.fst).Nodup → (c, v) ∈ T → T.Perm ((c, v) :: dropT T c)
  | [], _, _, _, h => by cases h
  | (d, u) :: T, c, v, hn, h => by
    rw [List.map_cons, List.nodup_cons] at hn
    by_cases e : d = c
    · subst e
      have hu : v = u := by
        rcases List.mem_cons.1 h with h | h
        · exact (Prod.mk.inj h).2
        · exact absurd (List.mem_map.2 ⟨_, h, rfl⟩) hn.1
      subst hu
      have hT : dropT T d = T := List.filter_eq_self.2 (fun x hx => decide_eq_true (fun e => hn.1 (List.mem_map.2 ⟨x, hx, e⟩)))
      have : dropT ((d, v) :: T) d = T := by unfold dropT; rw [List.filter_cons_of_neg (by simp)]; exact hT
      rw [this]
    · have h' : (c, v) ∈ T := by
        rcases List.mem_cons.1 h with h | h
        · exact absurd (Prod.mk.inj h).1.symm e
        · exact h
      have : dropT ((d, u) :: T) c = (d, u) :: dropT T c := by unfold dropT; rw [List.filter_cons_of_pos (by simpa using e)]
      rw [this]
      exact ((dropT_perm hn.2 h').cons _).trans (List.Perm.swap _ _ _)
theorem dropT_none {T : List (Cp × Int)} {c : Cp} (h : c ∉ T.map Prod.fst) : dropT T c = T := List.filter_eq_self.2 (fun x hx => decide_eq_true (fun e => h (List.mem_map.2 ⟨x, hx, e⟩)))
theorem forget_tot {w : World} {A : Ad} {kn mo : Nat} {T : List (Cp × Int)} {X : List Tk} {l : Fo} (h : Cm w A kn mo T X l) (n : Nat) (hn : n < mo) (hw : (tk X (n : Int)).1.2.1 < B64 ∧ (tk X (n : Int)).1.2.2 < B64) :
    Calls Try.prog 31 #[.pointer (some ⟨A.g, 0, none⟩), .int .i64 (n : Int)] w fun e w' => e = .returned (cpV (tk X (n : Int)).1) ∧ Cm w' A kn mo (dropT T (tk X (n : Int)).1) (X.set n tz) l ∧ But A.Wr w w' := by
  obtain ⟨⟨o, hi, lo⟩, r, hx⟩ : ∃ c r, tk X (n : Int) = (c, r) := ⟨_, _, rfl⟩
  rw [hx] at hw ⊢
  refine forget_of h n hn o hi lo r hx (fun W hW => ?_)
  by_cases hc : (o, hi, lo) ∈ T.map Prod.fst
  · obtain ⟨⟨c, v⟩, hm, rfl⟩ := List.mem_map.1 hc
    exact (I.drop_ok (h.tab.later hW) _ _ _ hw.1 hw.2 v hm _ (dropT_perm h.tab.nodup hm)).mono (fun e w' he => ⟨⟨_, he.1⟩, he.2⟩)
  · rw [dropT_none hc]
    exact (I.drop_none (h.tab.later hW) _ _ _ hw.1 hw.2 hc).mono (fun e w' he => ⟨⟨_, he.1⟩, (h.tab.later hW).later he.2, But.of he.2⟩)

/-! ### join, lowest -/
set_option maxRecDepth 100000 in
set_option maxHeartbeats 1000000 in
theorem join_any {w : World} {A : Ad} {kn mo : Nat} {T : List (Cp × Int)} {X : List Tk} {l : Fo} (h : Cm w A kn mo T X l) (p : Int) (n : Nat) (hn : n < mo) (hl : (n : Int) ∉ nums l) (hp : p = -1 ∨ p ∈ nums l) :
    Calls Try.prog 63 #[.pointer (some ⟨A.g, 2, none⟩), .int .i64 p, .int .i64 (n : Int)] w fun e w' => e = .returned (.tuple #[]) ∧ Cm w' A kn mo T X (l ++ [((n : Int), p)]) ∧ But A.Wr w w' := by
  have x2 := h.c2
  have HH := hid h
  by_cases hq : p = -1
  · subst hq
    have hc := hid (root_any h.kin (n : Int))
    have HL : Hid (rootL mo l (n : Int) = l ++ [((n : Int), -1)]) := by unfold Hid rootL; rw [if_pos ⟨by omega, hl⟩]
    clear h hl hp
    go_enter Try.func63, Try.ntmps63
    go_wp2_with (first | (go_at_call 73; refine hc.out.mono ?_; rintro e w1 ⟨rfl, hk, hb⟩; have HK := hid hk; have HB := hid hb; clear hk hb))
    refine bodyPost_ret (results_none rfl _ _ _) rfl ⟨rfl, ?_, HB.out.mono (fun k e => .inr (.inr (.inr e)))⟩
    rw [← HL.out]
    exact HH.out.setK HB.out HK.out
  · have hp' : p ∈ nums l := hp.resolve_left hq
    have hc := hid (child_any h.kin p (n : Int))
    have HL : Hid (childL mo l p (n : Int) = l ++ [((n : Int), p)]) := by unfold Hid childL; rw [if_pos ⟨hp', by omega, hl⟩]
    have hb1 : (p == (-1 : Int)) = false := by simp [hq]
    clear h hl hp hp'
    go_enter Try.func63, Try.ntmps63
    go_wp2_with (first | (go_at_call 74; refine hc.out.mono ?_; rintro e w1 ⟨rfl, hk, hb⟩; have HK := hid hk; have HB := hid hb; clear hk hb))
    go_end0
    refine ⟨rfl, ?_, HB.out.mono (fun k e => .inr (.inr (.inr e)))⟩
    rw [← HL.out]
    exact HH.out.setK HB.out HK.out
set_option maxRecDepth 100000 in
set_option maxHeartbeats 1000000 in
theorem lowest_any {w : World} {A : Ad} {kn mo : Nat} {T : List (Cp × Int)} {X : List Tk} {l : Fo} (h : Cm w A kn mo T X l) :
    Calls Try.prog 61 #[.pointer (some ⟨A.g, 0, none⟩)] w fun e w' => e = .returned (.int .i64 (low l : Int)) ∧ w' = w := by
  have hok := hid h.kin.ok
  have hmo := h.small
  have hlen := hok.out.len
  have hH := fun n : Int => hid (chas_any h n)
  clear h
  go_enter Try.func61, Try.ntmps61
  go_upto_region 2 with fail
  go_loopw [3] (fun v w' => ∃ (i : Nat), v = .int .i64 (i : Int) ∧ i ≤ l.length ∧ Hid (∀ j : Nat, j < i → (j : Int) ∈ nums l) ∧ w = w') (fun k _ => l.length - (intOf k).toNat)
  case atStart => exact ⟨0, rfl, Nat.zero_le _, fun j hj => by omega, rfl⟩
  case round =>
    obtain ⟨i, rfl, hi, hx, rfl⟩ := hrel
    have hh := (hH (i : Int)).out
    by_cases hin : (i : Int) ∈ nums l
    · rw [decide_eq_true hin] at hh
      have hx1 : Hid (∀ j : Nat, j < i + 1 → (j : Int) ∈ nums l) := fun j hj => by
        by_cases e : j = i
        · rw [e]; exact hin
        · exact hx.out j (by omega)
      have hlt : i + 1 ≤ l.length := low_bound hx1.out
      clear hin
      go_wp2_with (first | (go_at_call 26; refine hh.mono ?_; rintro e w1 ⟨rfl, rfl⟩))
      refine ⟨⟨i + 1, by go_num, by omega, hx1, trivial⟩, by simp [intOf]; omega⟩
    · rw [decide_eq_false hin] at hh
      have HE : Hid (low l = i) := low_eq hin hx.out
      clear hin
      go_wp2_with (first | (go_at_call 26; refine hh.mono ?_; rintro e w1 ⟨rfl, rfl⟩))
      go_ret
      exact ⟨by rw [HE.out]; rfl, rfl⟩
end Go.Proofs.Ytgdhdfmgfncdkaa
