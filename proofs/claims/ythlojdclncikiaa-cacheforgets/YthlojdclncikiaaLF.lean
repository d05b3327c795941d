import Derived.Test.YthlojdclncikiaaLL
namespace Go.Proofs.Ythlojdclncikiaa
open Go.RowKit
set_option linter.unusedVariables false
set_option linter.unusedSimpArgs false

/-- A loop over n: the cache in the epoch E, of which X holds. -/
def GRel (W : World) (g s n E : Nat) (X : (Nat → List Pu) → Prop) (t : Value) (w : World) : Prop :=
  ∃ (i : Nat) (T : Nat → List Pu) (hi mi : Int), i ≤ n ∧ t = .int .i64 (i : Int) ∧ X T ∧ Kc w g s 4 64 T E hi mi ∧ But (fun x => x = g) W w
/-- i epochs have begun. -/
def TRel (W : World) (g s n : Nat) (t : Value) (w : World) : Prop :=
  ∃ (i : Nat) (T : Nat → List Pu) (hi mi : Int), i ≤ n ∧ t = .int .i64 (i : Int) ∧ (0 < i → T = T0) ∧ Kc w g s 4 64 T (i % 256) hi mi ∧ But (fun x => x = g) W w
set_option maxRecDepth 100000 in
set_option maxHeartbeats 4000000 in
theorem forgets_any (sets turns m : Int) (w : World) {ap : Option Addr} {np cp : Nat} {C : List Cp} (hp : Rd w ap np C) (hC : ∀ c ∈ C, okC c) (hb : np ≤ 9223372036854775807) :
    Calls Try.prog 3 #[.int .i64 sets, .slice ap np cp, .int .i64 turns, .int .i64 m] w fun e w' => e = .returned (.bool true) ∧ Below w.heap.size w w' := by
  have hl := hp.len
  subst hl
  have HP := hid hp
  have HOK := hid hC
  clear hp hC
  obtain ⟨s, hs0, hS0⟩ := low 17 sets (by decide) (by decide)
  obtain ⟨t0, ht0, hT0⟩ := low 700 turns (by decide) (by decide)
  have hs16 : s ≤ 16 := by omega
  have ht4 : wrap64 (1 + (t0 : Int)) = ((t0 + 1 : Nat) : Int) := by unfold wrap64; omega
  obtain ⟨t, ht⟩ : ∃ t, t = t0 + 1 := ⟨_, rfl⟩
  rw [← ht] at ht4
  have ht1 : 1 ≤ t := by omega
  have ht7 : t ≤ 700 := by omega
  obtain ⟨z, hz⟩ : ∃ z : Int, z = (s : Int) := ⟨_, rfl⟩
  have hNew := hid (knew s 4 64 w hs16 (by decide) (by decide) (by decide))
  rw [← hz] at hNew hS0
  have HZ := hid hz
  clear hz
  have HT4 := hid ht4
  have HT0 := hid hT0
  clear ht ht0 ht4 hs0 hT0
  go_enter Try.func3, Try.ntmps3
  go_upto_region 2 with (first | (go_at_call 6; refine hNew.out.mono ?_; rintro e w1 ⟨g, rfl, hk1, hg1, hb1⟩; have HK1 := hid hk1; have HG := hid hg1; have HB1 := hid hb1; clear hk1 hg1 hb1))
  clear hNew
  have HS0 := hid hS0
  clear hS0
  have hal := hid (alive_any w1)
  go_upto_region 4 with (first | (go_at_call 7; refine (num_any _ _).mono ?_; rintro e w9 ⟨rfl, hw9⟩; obtain rfl := hw9.symm; clear hw9) | (go_at_call 8; refine hal.out.mono ?_; rintro e w2 ⟨rfl, hb2⟩; have HB2 := hid hb2; clear hb2))
  clear hal
  have HK2 := hid (HK1.out.later HB2.out)
  have HBel : Hid (∀ U : World, But (fun x => x = g) w2 U → Below w.heap.size w U) := fun U hU => But.below (below_call HB1.out HB2.out) hU (fun x hx => by have := HG.out; omega)
  clear HB1 HB2 HK1
  go_upto_region 5 with fail
  go_loopw [11] (GRel w2 g s C.length 0 (fun _ => True)) (fun t _ => C.length - (intOf t).toNat)
  case atStart => exact ⟨0, T0, 0, 0, by omega, rfl, trivial, HK2.out, But.refl _ _⟩
  case round =>
    obtain ⟨i, T, hi, mi, hi_, rfl, hT, hK, hB⟩ := hrel
    have HK := hid hK
    have HB := hid hB
    clear hK hB
    by_cases hlt : i < C.length
    · have hd : decide ((i : Int) < (C.length : Int)) = true := decide_eq_true (by omega)
      obtain ⟨c, hc⟩ : ∃ c, C[i]? = some c := ⟨_, List.getElem?_eq_getElem hlt⟩
      obtain ⟨b, o, rfl, hat⟩ := HP.out.at_ (by omega)
      have HX : Hid (∀ U : World, Below w.heap.size w U → U.cell? ⟨b, o + i * 3, none⟩ = some (.int .i64 c.1) ∧ U.cell? ⟨b, o + i * 3 + 1, none⟩ = some (.int .u64 (c.2.1 : Int)) ∧ U.cell? ⟨b, o + i * 3 + 2, none⟩ = some (.int .u64 (c.2.2 : Int))) := fun U hU => by
        obtain ⟨x0, x1, x2⟩ := (hat i c hc).later hU
        exact ⟨x0, x1, x2⟩
      have HC := hid (HOK.out c (List.mem_of_getElem? hc))
      clear hat hc
      obtain ⟨x0, x1, x2⟩ := HX.out wr (HBel.out wr HB.out)
      go_wp2_with (first | (go_at_call 9; refine (kput HK.out c 3 HC.out).mono ?_; rintro e w3 ⟨rfl, hk3, hb3⟩; have HK3 := hid hk3; have HB3 := hid (HB.out.trans hb3); clear hk3 hb3))
      exact ⟨⟨i + 1, _, _, _, by omega, by go_num, trivial, HK3.out, HB3.out⟩, by simp [intOf]; omega⟩
    · have hd : decide ((i : Int) < (C.length : Int)) = false := decide_eq_false (by omega)
      have H0 : Hid (TRel w2 g s t (.int .i64 0) wr) := ⟨0, T, hi, mi, by omega, rfl, fun h => by omega, HK.out, HB.out⟩
      clear HK HB hT
      have hT0 := HT0.out
      have hT4 := HT4.out
      go_upto_region 10 with fail
      clear hT0 hT4 hd hlt hi_
      try rw [HT4.out]
      go_loopw [13] (TRel w2 g s t) (fun x _ => t - (intOf x).toNat)
      case atStart => exact H0.out
      case round =>
        clear H0
        obtain ⟨i, T, hi, mi, hi_, rfl, hT, hK, hB⟩ := hrel
        have HK := hid hK
        have HB := hid hB
        clear hK hB
        by_cases hlt : i < t
        · have hd : decide ((i : Int) < (t : Int)) = true := decide_eq_true (by omega)
          go_wp2_with (first | (go_at_call 10; refine (kturn HK.out).mono ?_; rintro e w3 ⟨rfl, hk3, hb3⟩; have HK3 := hid hk3; have HB3 := hid (HB.out.trans hb3); clear hk3 hb3))
          exact ⟨⟨i + 1, _, _, _, by omega, by go_num, fun _ => rfl, by rw [show (i + 1) % 256 = (i % 256 + 1) % 256 by omega]; exact HK3.out, HB3.out⟩, by simp [intOf]; omega⟩
        · obtain rfl : i = t := by omega
          have hd : decide ((i : Int) < (i : Int)) = false := decide_eq_false (by omega)
          obtain rfl : T = T0 := hT (by omega)
          obtain ⟨E, hE⟩ : ∃ E, E = i % 256 := ⟨_, rfl⟩
          rw [← hE] at HK
          have hE2 : (i : Int) % 256 = (E : Int) := by omega
          clear hE
          have H0 : Hid (GRel w2 g s C.length E (fun T => T = T0) (.int .i64 0) wr) := ⟨0, T0, hi, mi, by omega, rfl, rfl, HK.out, HB.out⟩
          go_upto_region 15 with (first | (go_at_call 11; refine (kepoch HK.out).mono ?_; rintro e w9 ⟨rfl, hw9⟩; obtain rfl := hw9.symm; clear hw9))
          clear hE2 hd hlt HK HB hT
          go_upto_region 16 with fail
          go_loopw [14] (GRel w2 g s C.length E (fun T => T = T0)) (fun t _ => C.length - (intOf t).toNat)
          case atStart => exact H0.out
          case round =>
            clear H0
            obtain ⟨i, T, hi, mi, hi_, rfl, hT, hK, hB⟩ := hrel
            have HK := hid hK
            have HB := hid hB
            clear hK hB
            obtain rfl : T = T0 := hT
            by_cases hlt : i < C.length
            · have hd : decide ((i : Int) < (C.length : Int)) = true := decide_eq_true (by omega)
              obtain ⟨c, hc⟩ : ∃ c, C[i]? = some c := ⟨_, List.getElem?_eq_getElem hlt⟩
              obtain ⟨b, o, rfl, hat⟩ := HP.out.at_ (by omega)
              have HX : Hid (∀ U : World, Below w.heap.size w U → U.cell? ⟨b, o + i * 3, none⟩ = some (.int .i64 c.1) ∧ U.cell? ⟨b, o + i * 3 + 1, none⟩ = some (.int .u64 (c.2.1 : Int)) ∧ U.cell? ⟨b, o + i * 3 + 2, none⟩ = some (.int .u64 (c.2.2 : Int))) := fun U hU => by
                obtain ⟨x0, x1, x2⟩ := (hat i c hc).later hU
                exact ⟨x0, x1, x2⟩
              have HC := hid (HOK.out c (List.mem_of_getElem? hc))
              clear hat hc
              obtain ⟨x0, x1, x2⟩ := HX.out wr (HBel.out wr HB.out)
              have hGet := hid (kget HK.out c HC.out)
              rw [get_none] at hGet
              go_wp2_with (first | (go_at_call 12; refine hGet.out.mono ?_; rintro e w3 ⟨rfl, hk3, hb3⟩; have HK3 := hid hk3; have HB3 := hid (HB.out.trans hb3); clear hk3 hb3))
              exact ⟨⟨i + 1, _, _, _, by omega, by go_num, rfl, HK3.out, HB3.out⟩, by simp [intOf]; omega⟩
            · have hd : decide ((i : Int) < (C.length : Int)) = false := decide_eq_false (by omega)
              have H0 : Hid (GRel w2 g s C.length E (fun _ => True) (.int .i64 0) wr) := ⟨0, T0, hi, mi, by omega, rfl, trivial, HK.out, HB.out⟩
              clear HK HB
              go_upto_region 22 with fail
              clear hd hlt hi_
              go_loopw [17] (GRel w2 g s C.length E (fun _ => True)) (fun t _ => C.length - (intOf t).toNat)
              case atStart => exact H0.out
              case round =>
                clear H0
                obtain ⟨i, T, hi, mi, hi_, rfl, hT, hK, hB⟩ := hrel
                have HK := hid hK
                have HB := hid hB
                clear hK hB
                by_cases hlt : i < C.length
                · have hd : decide ((i : Int) < (C.length : Int)) = true := decide_eq_true (by omega)
                  obtain ⟨c, hc⟩ : ∃ c, C[i]? = some c := ⟨_, List.getElem?_eq_getElem hlt⟩
                  obtain ⟨b, o, rfl, hat⟩ := HP.out.at_ (by omega)
                  have HX : Hid (∀ U : World, Below w.heap.size w U → U.cell? ⟨b, o + i * 3, none⟩ = some (.int .i64 c.1) ∧ U.cell? ⟨b, o + i * 3 + 1, none⟩ = some (.int .u64 (c.2.1 : Int)) ∧ U.cell? ⟨b, o + i * 3 + 2, none⟩ = some (.int .u64 (c.2.2 : Int))) := fun U hU => by
                    obtain ⟨x0, x1, x2⟩ := (hat i c hc).later hU
                    exact ⟨x0, x1, x2⟩
                  have HC := hid (HOK.out c (List.mem_of_getElem? hc))
                  clear hat hc
                  obtain ⟨x0, x1, x2⟩ := HX.out wr (HBel.out wr HB.out)
                  go_upto_region 25 with (first | (go_at_call 9; refine (kput HK.out c m HC.out).mono ?_; rintro e w3 ⟨rfl, hk3, hb3⟩; have HK3 := hid hk3; have HB3 := hid (HB.out.trans hb3); clear hk3 hb3))
                  clear x0 x1 x2
                  obtain ⟨x0, x1, x2⟩ := HX.out w3 (HBel.out w3 HB3.out)
                  have hGet := hid (kget HK3.out c HC.out)
                  have hS0 := HS0.out
                  by_cases hz : s = 0
                  · rw [show getT s 64 (putT s 4 64 T c m) c = (0, false) from if_pos hz] at hGet
                    have hpos : decide (z > 0) = false := decide_eq_false (by rw [HZ.out]; omega)
                    clear hz
                    go_upto_region 26 with (first | (go_at_call 12; refine hGet.out.mono ?_; rintro e w4 ⟨rfl, hk4, hb4⟩; have HK4 := hid hk4; have HB4 := hid (HB3.out.trans hb4); clear hk4 hb4))
                    clear x0 x1 x2
                    go_wp2
                    exact ⟨⟨i + 1, _, _, _, by omega, by go_num, trivial, HK4.out, HB4.out⟩, by simp [intOf]; omega⟩
                  · rw [get_put T c m hz (by decide)] at hGet
                    have hpos : decide (z > 0) = true := decide_eq_true (by rw [HZ.out]; omega)
                    go_upto_region 26 with (first | (go_at_call 12; refine hGet.out.mono ?_; rintro e w4 ⟨rfl, hk4, hb4⟩; have HK4 := hid hk4; have HB4 := hid (HB3.out.trans hb4); clear hk4 hb4))
                    clear x0 x1 x2
                    go_wp2
                    exact ⟨⟨i + 1, _, _, _, by omega, by go_num, trivial, HK4.out, HB4.out⟩, by simp [intOf]; omega⟩
                · have hd : decide ((i : Int) < (C.length : Int)) = false := decide_eq_false (by omega)
                  go_wp2
                  go_ret
                  exact ⟨rfl, HBel.out _ HB.out⟩
end Go.Proofs.Ythlojdclncikiaa
