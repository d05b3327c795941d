import Derived.Test.YtlelglfdamakaaaU1
namespace Go.Proofs.Ytlelglfdamakaaa
open Go.RowKit H
set_option linter.unusedVariables false
set_option linter.unusedSimpArgs false
variable {w w' : World} {H : Hv} {X : List Tk} {l : Fo} {t : Nat}

/-! ### The document's Given and Named -/
set_option maxRecDepth 100000 in
set_option maxHeartbeats 2000000 in
theorem rgiven_any (h : Rq w H X l t) (hv : Inv H.mo X l) (c : Cp) (need : Int) :
    Calls Try.prog 21 #[.pointer (some ⟨H.r, 0, none⟩), cpV c, .int .i64 need] w fun e w' => e = .returned (.int .i64 (givE X l need c)) ∧ Below w.heap.size w w' := by
  obtain ⟨wh, ev, hf, htm, _⟩ := h
  obtain ⟨o, hi, lo⟩ := c
  obtain ⟨w0, hw0⟩ : ∃ w0, w0 = w.alloc (Obj.cells #[.int .i64 o, .int .u64 (hi : Int), .int .u64 (lo : Int)] 32) := ⟨_, rfl⟩
  have hB0 : Below w.heap.size w w0 := by rw [hw0]; exact below1 _ _
  have x0 : w0.cell? ⟨w.heap.size, 0, none⟩ = some (.int .i64 o) := by rw [hw0]; simp [go_sem]
  have x1 : w0.cell? ⟨w.heap.size, 1, none⟩ = some (.int .u64 (hi : Int)) := by rw [hw0]; simp [go_sem]
  have x2 : w0.cell? ⟨w.heap.size, 2, none⟩ = some (.int .u64 (lo : Int)) := by rw [hw0]; simp [go_sem]
  have HF := hid (rfind_any (hf.later hB0) hv o hi lo)
  have HB0 := hid hB0
  rcases givE_cases X l need (o, hi, lo) with ⟨h1, h2⟩ | h12
  · rw [h1] at HF
    rw [h2]
    clear hf htm hv h1 h2 hB0
    generalize findN X l (o, hi, lo) = m at *
    go_enter Try.func21, Try.ntmps21
    go_upto_region 1 with fail
    rw [← hw0]
    clear hw0
    go_wp2_with (first | (go_at_call 22; refine HF.out.mono ?_; rintro e w2 ⟨rfl, hb2⟩; have HB2 := hid (below_call HB0.out hb2); clear hb2))
    go_ret
    exact ⟨rfl, HB2.out⟩
  · have hc' : hasC X l (o, hi, lo) = true := by rcases h12 with h | h <;> exact h.1
    have hvl := rgt_valid hv hc'
    rw [hc'] at HF
    obtain ⟨hfn, hft⟩ := found hv hc'
    have HA := hid (fun (U : World) (hU : Below w.heap.size w U) => rat_any (hf.later hU) (fun x hx => hv.ok.range x hx) (findN X l (o, hi, lo)))
    have hrr : rg X (findN X l (o, hi, lo)) = rgt X l (o, hi, lo) := rfl
    unfold tokV at HA
    rw [if_pos hfn, hft, hrr] at HA
    have HP := hid (rpart_any need (rgt X l (o, hi, lo)) hvl)
    have hg : givE X l need (o, hi, lo) = if partB need (rgt X l (o, hi, lo)) = false then 4 else 0 := by unfold givE; rw [hc']; rfl
    rw [hg]
    unfold tokA at HA
    clear hf htm hv h12 hB0 hfn hft hrr hc' hvl hg
    generalize rgt X l (o, hi, lo) = q at *
    generalize par l (findN X l (o, hi, lo)) = p at *
    generalize findN X l (o, hi, lo) = m at *
    cases hp : partB need q with
    | false =>
      rw [hp] at HP
      simp only [if_true]
      clear hp
      go_enter Try.func21, Try.ntmps21
      go_upto_region 1 with fail
      rw [← hw0]
      clear hw0
      go_wp2_with (first
        | (go_at_call 49; refine (HP.out _).mono ?_; rintro e w9 ⟨rfl, hw9⟩; obtain rfl := hw9.symm; clear hw9)
        | (go_at_call 48; refine (HA.out _ HB2.out).mono ?_; rintro e w3 ⟨rfl, hb3⟩; have HB3 := hid (below_call HB2.out hb3); clear hb3)
        | (go_at_call 22; refine HF.out.mono ?_; rintro e w2 ⟨rfl, hb2⟩; have HB2 := hid (below_call HB0.out hb2); clear hb2))
      go_ret
      exact ⟨rfl, HB3.out.alloc HB3.out.size _⟩
    | true =>
      rw [hp] at HP
      simp only [Bool.true_eq_false, if_false]
      clear hp
      go_enter Try.func21, Try.ntmps21
      go_upto_region 1 with fail
      rw [← hw0]
      clear hw0
      go_wp2_with (first
        | (go_at_call 49; refine (HP.out _).mono ?_; rintro e w9 ⟨rfl, hw9⟩; obtain rfl := hw9.symm; clear hw9)
        | (go_at_call 48; refine (HA.out _ HB2.out).mono ?_; rintro e w3 ⟨rfl, hb3⟩; have HB3 := hid (below_call HB2.out hb3); clear hb3)
        | (go_at_call 22; refine HF.out.mono ?_; rintro e w2 ⟨rfl, hb2⟩; have HB2 := hid (below_call HB0.out hb2); clear hb2))
      go_ret
      exact ⟨rfl, HB3.out.alloc HB3.out.size _⟩
def RnRel (w1 : World) (X : List Tk) (l : Fo) (K : List Cp) (o need : Int) (t s : Value) (w : World) : Prop :=
  ∃ (i : Nat) (e : Int), t = .int .i64 (i : Int) ∧ s = .int .i64 e ∧ i ≤ K.length ∧ namG (givE X l need) o K 3 = namG (givE X l need) o (K.drop i) e ∧ Below w1.heap.size w1 w
set_option maxRecDepth 100000 in
set_option maxHeartbeats 2000000 in
theorem rnamed_any (h : Rq w H X l t) (hv : Inv H.mo X l) (o need : Int) {a : Option Addr} {n : Nat} {K : List Cp} (cap : Nat) (hr : Rd w a n K) (hn : n ≤ 9223372036854775807) :
    Calls Try.prog 46 #[.pointer (some ⟨H.r, 0, none⟩), .int .i64 o, .int .i64 need, .slice a n cap] w fun e w' => e = .returned (.tuple #[cpV (namG (givE X l need) o K 3).1, .int .i64 (namG (givE X l need) o K 3).2]) ∧ Below w.heap.size w w' := by
  have hl := hr.len
  subst hl
  obtain ⟨w1, hw1⟩ : ∃ w1, w1 = w.alloc (Obj.cells #[.int .i64 0, .int .u64 0, .int .u64 0] 32) := ⟨_, rfl⟩
  have hB1 : Below w.heap.size w w1 := by rw [hw1]; exact below1 _ _
  have hL1 : Lies w1 ⟨w.heap.size, 0, none⟩ (.int .i64 0) ∧ Lies w1 ⟨w.heap.size, 1, none⟩ (.int .u64 0) ∧ Lies w1 ⟨w.heap.size, 2, none⟩ (.int .u64 0) := by
    rw [hw1]; exact ⟨⟨by simp [go_sem], by simp [go_sem]⟩, ⟨by simp [go_sem], by simp [go_sem]⟩, ⟨by simp [go_sem], by simp [go_sem]⟩⟩
  have HL : Hid (∀ U, Below w1.heap.size w1 U → Lies U ⟨w.heap.size, 0, none⟩ (.int .i64 0) ∧ Lies U ⟨w.heap.size, 1, none⟩ (.int .u64 0) ∧ Lies U ⟨w.heap.size, 2, none⟩ (.int .u64 0)) := fun U hU => ⟨hL1.1.later hU, hL1.2.1.later hU, hL1.2.2.later hU⟩
  have HR := hid (fun (U : World) (hU : Below w1.heap.size w1 U) => (hr.later hB1).later hU)
  have HG := hid (fun (U : World) (hU : Below w1.heap.size w1 U) (c : Cp) => rgiven_any (h.later (below_call hB1 hU)) hv c need)
  have HEnd : Hid (∀ U, Below w1.heap.size w1 U → ∀ (x : Int) (y z : Nat), Below w.heap.size w (set3 U w.heap.size (x, y, z))) := fun U hU x y z => But.below (below_call hB1 hU) (set3_but (S := fun k => k = w.heap.size) (But.refl _ _) (b := w.heap.size) rfl _) (fun k hk => by omega)
  clear h hr hB1 hL1
  go_enter Try.func46, Try.ntmps46
  go_upto_region 1 with fail
  rw [← hw1]
  clear hw1
  go_upto_region 3 with fail
  go_loopw [11, 10] (RnRel w1 X l K o need) (fun t _ _ => K.length - (intOf t).toNat)
  case atStart => exact ⟨0, 3, rfl, rfl, by omega, by simp, Below.refl _ _⟩
  case round =>
    obtain ⟨i, e, rfl, rfl, hi, hna, hB⟩ := hrel
    have HB := hid hB
    have HN := hid hna
    clear hna hB
    by_cases hlt : i < K.length
    · have hd : decide ((i : Int) < (K.length : Int)) = true := decide_eq_true (by omega)
      obtain ⟨x, hx⟩ : ∃ x, K[i]? = some x := ⟨_, List.getElem?_eq_getElem hlt⟩
      obtain ⟨b, q, rfl, hat⟩ := (HR.out _ HB.out).at_ (by omega)
      have HS := hid (namG_step (g := givE X l need) (o := o) hx e)
      have HCe := hid (fun (U : World) (hU : Below wr.heap.size wr U) => (hat i x hx).later hU)
      obtain ⟨x0, x1, x2⟩ := hat i x hx
      clear hx hat
      obtain ⟨xo, xh, xl⟩ := x
      simp only at x0 x1 x2
      by_cases hc : xo = o
      · have hq : (xo != o) = false := by simp [hc]
        have HGx := hid (HG.out wr HB.out (xo, xh, xl))
        have HS2 : Hid (namG (givE X l need) o K 3 = if givE X l need (xo, xh, xl) = 0 then ((xo, xh, xl), 0) else if givE X l need (xo, xh, xl) = 4 then namG (givE X l need) o (K.drop (i + 1)) 4 else namG (givE X l need) o (K.drop (i + 1)) e) := by unfold Hid; rw [HN.out, HS.out, if_neg (by simpa using hc)]
        have hcx := givE_cases X l need (xo, xh, xl)
        clear hc HS HN
        rcases hcx with ⟨_, h1⟩ | ⟨_, _, h1⟩ | ⟨_, _, h1⟩
        · rw [h1] at HGx HS2
          clear h1
          go_wp2_with (first | (go_at_call 21; refine HGx.out.mono ?_; rintro e3 w3 ⟨rfl, hb3⟩; have HB3 := hid (below_call HB.out hb3); clear hb3))
          exact ⟨⟨i + 1, e, by go_num, rfl, by omega, HS2.out.trans (by simp), HB3.out⟩, by simp [intOf]; omega⟩
        · rw [h1] at HGx HS2
          clear h1
          go_wp2_with (first | (go_at_call 21; refine HGx.out.mono ?_; rintro e3 w3 ⟨rfl, hb3⟩; have HB3 := hid (below_call HB.out hb3); clear hb3))
          exact ⟨⟨i + 1, 4, by go_num, rfl, by omega, HS2.out.trans (by simp), HB3.out⟩, by simp [intOf]; omega⟩
        · rw [h1] at HGx HS2
          clear h1
          go_upto_region 8 with (first | (go_at_call 21; refine HGx.out.mono ?_; rintro e3 w3 ⟨rfl, hb3⟩; have HC3 := hid (HCe.out _ hb3); have HB3 := hid (below_call HB.out hb3); clear hb3))
          clear x0 x1 x2
          obtain ⟨x0, x1, x2⟩ := HC3.out
          simp only at x0 x1 x2
          obtain ⟨⟨r0, f0⟩, ⟨r1, f1⟩, ⟨r2, f2⟩⟩ := HL.out _ HB3.out
          have HE : Hid (namG (givE X l need) o K 3 = ((xo, xh, xl), 0)) := HS2.out.trans (by simp)
          go_wp2
          exact bodyPost_ret (v := .tuple #[cpV (xo, xh, xl), .int .i64 0]) (by simp [results, Try.results46, go_sem, r0, r1, r2]) rfl ⟨by rw [HE.out], HEnd.out _ HB3.out xo xh xl⟩
      · have hq : (xo != o) = true := by simp [hc]
        have HS2 : Hid (namG (givE X l need) o (K.drop i) e = namG (givE X l need) o (K.drop (i + 1)) e) := by unfold Hid; rw [HS.out, if_pos hc]
        clear hc
        go_wp2
        exact ⟨⟨i + 1, e, by go_num, rfl, by omega, HN.out.trans HS2.out, HB.out⟩, by simp [intOf]; omega⟩
    · have hd : decide ((i : Int) < (K.length : Int)) = false := decide_eq_false (by omega)
      have HE : Hid (namG (givE X l need) o K 3 = ((0, 0, 0), e)) := HN.out.trans (namG_end (by omega) e)
      obtain ⟨⟨r0, f0⟩, ⟨r1, f1⟩, ⟨r2, f2⟩⟩ := HL.out _ HB.out
      go_wp2
      exact bodyPost_ret (v := .tuple #[cpV (0, 0, 0), .int .i64 e]) (by simp [results, Try.results46, go_sem, r0, r1, r2]) rfl ⟨by rw [HE.out], HEnd.out _ HB.out 0 0 0⟩
end Go.Proofs.Ytlelglfdamakaaa
