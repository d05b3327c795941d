import Derived.Test.YtlelglfdamakaaaN6
namespace Go.Proofs.Ytlelglfdamakaaa
open Go.RowKit H
set_option linter.unusedVariables false
set_option linter.unusedSimpArgs false
variable {w w' : World} {H : Hv} {X : List Tk} {l : Fo} {T : Nat → List K.Pu}

/-! ### Named -/
theorem Rd.but0 {S : Nat → Prop} {w w' : World} {a : Option Addr} {n : Nat} {K : List Cp} (h : Rd w a n K) (hb : But S w w') (hn : 0 < n → ∀ k, Blk a k → ¬ S k) : Rd w' a n K := by
  by_cases h0 : 0 < n
  · exact h.but hb (hn h0)
  · exact ⟨h.len, fun h1 => absurd h1 h0⟩
/-- A capability is written into a block. -/
def set3 (w : World) (b : Nat) (c : Cp) : World := ((w.setCell ⟨b, 0, none⟩ (.int .i64 c.1)).setCell ⟨b, 1, none⟩ (.int .u64 (c.2.1 : Int))).setCell ⟨b, 2, none⟩ (.int .u64 (c.2.2 : Int))
theorem set3_but {S : Nat → Prop} {a w : World} (h : But S a w) {b : Nat} (hb : S b) (c : Cp) : But S a (set3 w b c) := ((h.setCell (p := ⟨b, 0, none⟩) hb _).setCell (p := ⟨b, 1, none⟩) hb _).setCell (p := ⟨b, 2, none⟩) hb _
theorem set3_put {S : Nat → Prop} {a w : World} (h : But S a w) {b : Nat} (hb : a.heap.size ≤ b) (c : Cp) : But S a (set3 w b c) := ((h.put (p := ⟨b, 0, none⟩) hb _).put (p := ⟨b, 1, none⟩) hb _).put (p := ⟨b, 2, none⟩) hb _
def NmRel (w1 : World) (H : Hv) (X : List Tk) (l : Fo) (K : List Cp) (o need : Int) (t s : Value) (w : World) : Prop :=
  ∃ (i : Nat) (e : Int), t = .int .i64 (i : Int) ∧ s = .int .i64 e ∧ i ≤ K.length ∧ namG (givE X l need) o K 3 = namG (givE X l need) o (K.drop i) e ∧ Vt w H X l ∧ But (fun k => k = H.g) w1 w
set_option maxRecDepth 100000 in
set_option maxHeartbeats 2000000 in
theorem named_any (h : Vt w H X l) (o need : Int) {a : Option Addr} {n : Nat} {K : List Cp} (cap : Nat) (hr : Rd w a n K) (hn : n ≤ 9223372036854775807) (hk : ∀ c ∈ K, c.2.1 < B64 ∧ c.2.2 < B64) (ha : 0 < n → ∀ k, Blk a k → k ≠ H.g) :
    Calls Try.prog 15 #[.pointer (some ⟨H.v, 0, none⟩), .int .i64 o, .int .i64 need, .slice a n cap] w fun e w' => e = .returned (.tuple #[cpV (namG (givE X l need) o K 3).1, .int .i64 (namG (givE X l need) o K 3).2]) ∧ Vt w' H X l ∧ But (fun k => k = H.g) w w' := by
  have hl := hr.len
  subst hl
  obtain ⟨w1, hw1⟩ : ∃ w1, w1 = w.alloc (Obj.cells #[.int .i64 0, .int .u64 0, .int .u64 0] 32) := ⟨_, rfl⟩
  have hB1 : Below w.heap.size w w1 := by rw [hw1]; exact below1 _ _
  have hgl : H.g < w.heap.size := by obtain ⟨_, ⟨_, ⟨_, _, _, hk⟩, _, _⟩, _⟩ := h; exact hk.lt
  have hL1 : Lies w1 ⟨w.heap.size, 0, none⟩ (.int .i64 0) ∧ Lies w1 ⟨w.heap.size, 1, none⟩ (.int .u64 0) ∧ Lies w1 ⟨w.heap.size, 2, none⟩ (.int .u64 0) := by
    rw [hw1]; exact ⟨⟨by simp [go_sem], by simp [go_sem]⟩, ⟨by simp [go_sem], by simp [go_sem]⟩, ⟨by simp [go_sem], by simp [go_sem]⟩⟩
  have HL : Hid (∀ U, But (fun k => k = H.g) w1 U → Lies U ⟨w.heap.size, 0, none⟩ (.int .i64 0) ∧ Lies U ⟨w.heap.size, 1, none⟩ (.int .u64 0) ∧ Lies U ⟨w.heap.size, 2, none⟩ (.int .u64 0)) := fun U hU =>
    have hne : ¬ w.heap.size = H.g := by omega
    ⟨hL1.1.but hU hne, hL1.2.1.but hU hne, hL1.2.2.but hU hne⟩
  have HR := hid (fun (U : World) (hU : But (fun k => k = H.g) w1 U) => (hr.later hB1).but0 hU ha)
  have HW := hid hk
  have HV1 := hid (h.later hB1)
  have HB1 := hid hB1
  have HEnd : Hid (∀ U, But (fun k => k = H.g) w1 U → But (fun k => k = H.g) w U) := fun U hU => (But.of hB1).trans hU
  have HEnd2 : Hid (∀ U, But (fun k => k = H.g) w1 U → ∀ (x : Int) (y z : Nat), But (fun k => k = H.g) w (set3 U w.heap.size (x, y, z))) := fun U hU x y z => set3_put ((But.of hB1).trans hU) (Nat.le_refl _) _
  have HFin : Hid (∀ U, Vt U H X l → ∀ (x : Int) (y z : Nat), Vt (set3 U w.heap.size (x, y, z)) H X l) := fun U hU x y z => hU.but (S := fun k => k = w.heap.size) (set3_but (S := fun k => k = w.heap.size) (But.refl _ _) (b := w.heap.size) rfl _) (fun k hk e => by have := h.cat.lt k hk; omega) (by omega) (fun e => by obtain ⟨_, ⟨_, _, hva, _⟩, _⟩ := h; have := hva.lt; omega)
  have HSz : Hid (w.heap.size < w1.heap.size) := by rw [hw1]; simp [Hid]
  clear h hr hk ha hB1 hL1 hgl
  go_enter Try.func15, Try.ntmps15
  go_upto_region 1 with fail
  rw [← hw1]
  clear hw1
  go_upto_region 3 with fail
  go_loopw [15, 10] (NmRel w1 H X l K o need) (fun t _ _ => K.length - (intOf t).toNat)
  case atStart => exact ⟨0, 3, rfl, rfl, by omega, by simp, HV1.out, But.refl _ _⟩
  case round =>
    obtain ⟨i, e, rfl, rfl, hi, hna, hv, hB⟩ := hrel
    have HB := hid hB
    have HN := hid hna
    have HV := hid hv
    clear hna hv hB
    by_cases hlt : i < K.length
    · have hd : decide ((i : Int) < (K.length : Int)) = true := decide_eq_true (by omega)
      obtain ⟨x, hx⟩ : ∃ x, K[i]? = some x := ⟨_, List.getElem?_eq_getElem hlt⟩
      obtain ⟨b, q, rfl, hat⟩ := (HR.out _ HB.out).at_ (by omega)
      have HS := hid (namG_step (g := givE X l need) (o := o) hx e)
      obtain ⟨x0, x1, x2⟩ := hat i x hx
      have HXw := hid (HW.out x (List.mem_of_getElem? hx))
      clear hx hat
      obtain ⟨xo, xh, xl⟩ := x
      simp only at x0 x1 x2
      by_cases hc : xo = o
      · have hq : (xo != o) = false := by simp [hc]
        obtain ⟨w2, hw2⟩ : ∃ w2, w2 = wr.alloc (Obj.cells #[.int .i64 xo, .int .u64 (xh : Int), .int .u64 (xl : Int)] 32) := ⟨_, rfl⟩
        have hB2 : Below wr.heap.size wr w2 := by rw [hw2]; exact below1 _ _
        have y0 : w2.cell? ⟨wr.heap.size, 0, none⟩ = some (.int .i64 xo) := by rw [hw2]; simp [go_sem]
        have y1 : w2.cell? ⟨wr.heap.size, 1, none⟩ = some (.int .u64 (xh : Int)) := by rw [hw2]; simp [go_sem]
        have y2 : w2.cell? ⟨wr.heap.size, 2, none⟩ = some (.int .u64 (xl : Int)) := by rw [hw2]; simp [go_sem]
        have hgl : H.g < wr.heap.size := by obtain ⟨_, ⟨_, ⟨_, _, _, hk⟩, _, _⟩, _⟩ := HV.out; exact hk.lt
        have HY : Hid (∀ U, But (fun k => k = H.g) w2 U → U.cell? ⟨wr.heap.size, 0, none⟩ = some (.int .i64 xo) ∧ U.cell? ⟨wr.heap.size, 1, none⟩ = some (.int .u64 (xh : Int)) ∧ U.cell? ⟨wr.heap.size, 2, none⟩ = some (.int .u64 (xl : Int))) := fun U hU =>
          have hne : ¬ wr.heap.size = H.g := by omega
          ⟨cell_but hU y0 hne, cell_but hU y1 hne, cell_but hU y2 hne⟩
        have HG := hid (given_any (HV.out.later hB2) (xo, xh, xl) need HXw.out)
        have HB2 := hid (HB.out.call hB2)
        have HS2 : Hid (namG (givE X l need) o K 3 = if givE X l need (xo, xh, xl) = 0 then ((xo, xh, xl), 0) else if givE X l need (xo, xh, xl) = 4 then namG (givE X l need) o (K.drop (i + 1)) 4 else namG (givE X l need) o (K.drop (i + 1)) e) := by unfold Hid; rw [HN.out, HS.out, if_neg (by simpa using hc)]
        have HSw : Hid (¬ w.heap.size = wr.heap.size) := by have h1 := HSz.out; have h2 := HB.out.size; unfold Hid; omega
        have hcx := givE_cases X l need (xo, xh, xl)
        clear hc hB2 hgl HS HN
        rcases hcx with ⟨_, h1⟩ | ⟨_, _, h1⟩ | ⟨_, _, h1⟩
        · rw [h1] at HG HS2
          clear h1
          go_upto_region 5 with fail
          rw [← hw2]
          clear hw2 x0 x1 x2
          go_wp2_with (first | (go_at_call 11; refine HG.out.mono ?_; rintro e3 w3 ⟨rfl, hv3, hb3⟩; have HV3 := hid hv3; have HB3 := hid (HB2.out.trans hb3); clear hv3 hb3))
          exact ⟨⟨i + 1, e, by go_num, rfl, by omega, HS2.out.trans (by simp), HV3.out, HB3.out⟩, by simp [intOf]; omega⟩
        · rw [h1] at HG HS2
          clear h1
          go_upto_region 5 with fail
          rw [← hw2]
          clear hw2 x0 x1 x2
          go_wp2_with (first | (go_at_call 11; refine HG.out.mono ?_; rintro e3 w3 ⟨rfl, hv3, hb3⟩; have HV3 := hid hv3; have HB3 := hid (HB2.out.trans hb3); clear hv3 hb3))
          exact ⟨⟨i + 1, 4, by go_num, rfl, by omega, HS2.out.trans (by simp), HV3.out, HB3.out⟩, by simp [intOf]; omega⟩
        · rw [h1] at HG HS2
          clear h1
          go_upto_region 5 with fail
          rw [← hw2]
          clear hw2 x0 x1 x2
          go_upto_region 8 with (first | (go_at_call 11; refine HG.out.mono ?_; rintro e3 w3 ⟨rfl, hv3, hb3⟩; have HV3 := hid hv3; have HY3 := hid (HY.out _ hb3); have HB3 := hid (HB2.out.trans hb3); clear hv3 hb3))
          clear y0 y1 y2
          obtain ⟨y0, y1, y2⟩ := HY3.out
          obtain ⟨⟨r0, f0⟩, ⟨r1, f1⟩, ⟨r2, f2⟩⟩ := HL.out _ HB3.out
          have HE : Hid (namG (givE X l need) o K 3 = ((xo, xh, xl), 0)) := HS2.out.trans (by simp)
          go_wp2
          exact bodyPost_ret (v := .tuple #[cpV (xo, xh, xl), .int .i64 0]) (by simp [results, Try.results15, go_sem, r0, r1, r2]) rfl ⟨by rw [HE.out], HFin.out _ HV3.out xo xh xl, HEnd2.out _ HB3.out xo xh xl⟩
      · have hq : (xo != o) = true := by simp [hc]
        have HS2 : Hid (namG (givE X l need) o (K.drop i) e = namG (givE X l need) o (K.drop (i + 1)) e) := by unfold Hid; rw [HS.out, if_pos hc]
        clear hc
        go_wp2
        exact ⟨⟨i + 1, e, by go_num, rfl, by omega, HN.out.trans HS2.out, HV.out.later (below1 _ _), HB.out.alloc _⟩, by simp [intOf]; omega⟩
    · have hd : decide ((i : Int) < (K.length : Int)) = false := decide_eq_false (by omega)
      have HE : Hid (namG (givE X l need) o K 3 = ((0, 0, 0), e)) := HN.out.trans (namG_end (by omega) e)
      obtain ⟨⟨r0, f0⟩, ⟨r1, f1⟩, ⟨r2, f2⟩⟩ := HL.out _ HB.out
      go_wp2
      exact bodyPost_ret (v := .tuple #[cpV (0, 0, 0), .int .i64 e]) (by simp [results, Try.results15, go_sem, r0, r1, r2]) rfl ⟨by rw [HE.out], HFin.out _ HV.out 0 0 0, HEnd2.out _ HB.out 0 0 0⟩
end Go.Proofs.Ytlelglfdamakaaa
