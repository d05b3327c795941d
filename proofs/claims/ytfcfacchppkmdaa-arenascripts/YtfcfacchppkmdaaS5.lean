import Derived.Test.YtfcfacchppkmdaaS4
namespace Go.Proofs.Ytfcfacchppkmdaa
open Go.RowKit
set_option linter.unusedVariables false
set_option linter.unusedSimpArgs false

theorem lookE_ok {n : Nat} {t : Nat → Bool} {p off m : Int} (h : lookE n t p off m = 0) : ∃ p' o' m' : Nat, p = (p' : Int) ∧ off = (o' : Int) ∧ m = (m' : Int) ∧ t p' = true ∧ o' + m' ≤ 64 := by
  unfold lookE at h
  by_cases h1 : thr n p = true ∧ t p.toNat = true
  · rw [if_pos h1] at h
    by_cases h2 : 0 ≤ off ∧ 0 ≤ m ∧ m ≤ 64 - off
    · have h3 := h1.1
      simp [thr] at h3
      exact ⟨p.toNat, off.toNat, m.toNat, by omega, by omega, by omega, h1.2, by omega⟩
    · rw [if_neg h2] at h
      cases h
  · rw [if_neg h1] at h
    cases h
set_option maxRecDepth 100000 in
set_option maxHeartbeats 2000000 in
theorem step_3 (g pb r rb n : Nat) (t : Nat → Bool) (B C : Nat → Nat → Nat) (o : Ops) (w : World) (h : Duo w g pb r rb n t B C) (ho : -9223372036854775808 ≤ o.of ∧ o.of < 9223372036854775808) (hk : o.kd = 3) :
    Calls Try.prog 20 #[.pointer (some ⟨g, 0, none⟩), .pointer (some ⟨r, 0, none⟩), .agg (opCells o)] w fun e w' => e = .returned (.bool true) ∧ Left g pb r rb n w w' := by
  obtain ⟨X, hX⟩ : ∃ X, X = opCells o := ⟨_, rfl⟩
  have hbx := Bx.new w o
  rw [← hX] at hbx ⊢
  have k1 : (o.kd == 1) = false := by simp [hk]
  have k2 : (o.kd == 2) = false := by simp [hk]
  have k3 : (o.kd == 3) = true := by simp [hk]
  have hB1 : Below w.heap.size w (w.alloc (.cells X 51)) := below1 _ _
  have H := hid (h.later hB1)
  have HX := hid hbx
  have HB := hid hB1
  have x0 := hbx.c0
  have x1 := hbx.c1
  have x2 := hbx.c2
  have x3 := hbx.c3
  clear h hX hbx hB1 hk
  obtain ⟨pg, hpg⟩ : ∃ p, p = o.pg := ⟨_, rfl⟩
  obtain ⟨of, hof⟩ : ∃ p, p = o.of := ⟨_, rfl⟩
  obtain ⟨nn, hnn⟩ : ∃ p, p = o.nn := ⟨_, rfl⟩
  rw [← hpg] at x1
  rw [← hof] at x2 ho
  rw [← hnn] at x3
  clear hpg hof hnn
  have HO := hid ho
  clear ho
  go_enter Try.func20, Try.ntmps20
  go_upto_region 22 with fail
  generalize w.alloc (.cells X 51) = w1 at H HX HB x0 x1 x2 x3 ⊢
  obtain ⟨E, hE⟩ : ∃ E, lookE n t pg of nn = E := ⟨_, rfl⟩
  have HE := hid hE
  clear hE
  by_cases hE0 : E = 0
  · subst hE0
    obtain ⟨p, off, m, rfl, rfl, rfl, htp, hom⟩ := lookE_ok HE.out
    have HLT := hid H.out.lt
    go_upto_region 23 with (first | (go_at_call 15; refine (read_ok g pb n t B p off m _ H.out.p htp hom).mono ?_; rintro e w2 ⟨ba, rfl, N2, b2⟩))
    replace H := hid (H.out.later b2)
    have HBt := hid (below_call HB.out b2)
    replace x1 := cell_later b2 x1
    replace x2 := cell_later b2 x2
    replace x3 := cell_later b2 x3
    have HN := hid N2
    have hge : ∀ k, Blk ba k → w.heap.size ≤ k := fun k hk => Nat.le_trans HB.out.size (N2.ge k hk)
    have HGE := hid hge
    have HNO : Hid (∀ k, Blk ba k → ¬ Ours g pb r rb k) := hid (fun k hk e => by
      have h1 := N2.ge k hk
      have h2 := HLT.out k e
      omega)
    clear b2 N2 hge
    go_upto_region 24 with (first | (go_at_call 31; refine (rread_ok r rb n t C p off m _ H.out.q htp hom).mono ?_; rintro e w3 ⟨ca, cc, rfl, O3, b3⟩))
    rw [pgL_same H.out htp hom] at O3
    replace HN := hid (HN.out.later b3)
    replace H := hid (H.out.later b3)
    replace HBt := hid (below_call HBt.out b3)
    have cv1 := HN.out.row.conv (pgL_small H.out.p p off m)
    have cv2 := O3.read.conv (pgL_small H.out.p p off m)
    obtain ⟨sb, hsb⟩ : ∃ sb, sb = strB (pgL B p off m) := ⟨_, rfl⟩
    rw [← hsb] at cv1 cv2
    clear hsb b3 O3 x0 x1 x2 x3
    go_upto_region 25 with (first | (go_at_call 8; refine (num_any _ _).mono ?_; rintro e w4 ⟨rfl, hw⟩; obtain rfl := hw.symm))
    clear cv1 cv2
    by_cases hm0 : m = 0
    · subst hm0
      simp only [Int.cast_ofNat_Int]
      go_upto_region 26 with fail
      go_loopw [23] (fun v w' => v = .int .i64 0 ∧ w3 = w') (fun _ _ => 0)
      case atStart => exact ⟨rfl, rfl⟩
      case round =>
        obtain ⟨rfl, rfl⟩ := hrel
        go_wp2
        go_ret
        exact ⟨rfl, ⟨_, _, _, H.out⟩, But.of HBt.out⟩
    · obtain ⟨b, o1, rfl, _⟩ := HN.out.row.plain (by omega)
      have HSP := hid HN.out.spot
      have hbg : w.heap.size ≤ b := HGE.out b ⟨_, rfl, rfl⟩
      have HNB : Hid (¬ Ours g pb r rb b) := hid (HNO.out b ⟨_, rfl, rfl⟩)
      clear HN HGE HNO
      go_upto_region 26 with fail
      go_loopw [23] (OvRel w3 b o1 m) (fun k _ => m - (intOf k).toNat)
      case atStart => exact ⟨0, rfl, Nat.zero_le _, HSP.out, But.refl _ _⟩
      case round =>
        obtain ⟨i, rfl, hi, hS, hB⟩ := hrel
        have HS := hid hS
        have HBi := hid hB
        clear hS hB
        by_cases hlt : i < m
        · have hd : decide ((i : Int) < (m : Int)) = true := decide_eq_true (by omega)
          obtain ⟨v, hv⟩ := HS.out i hlt
          have v1 := hv.1
          have v2 := hv.2
          have HS2 := hid (HS.out.put (u := .int .u8 221) hlt)
          have HB2 := hid (HBi.out.setCell (p := ⟨b, o1 + i, none⟩) (show b = b from rfl) (.int .u8 221))
          clear hv
          go_wp2
          exact ⟨⟨i + 1, rfl, by omega, HS2.out, HB2.out⟩, by simp [intOf]; omega⟩
        · obtain rfl : m = i := by omega
          have hd : decide ((m : Int) < (m : Int)) = false := by simp
          have HD2 := hid (H.out.but HBi.out (fun k hk e => HNB.out (by rw [← e]; exact hk)))
          have HB2 := hid ((But.of (S := Ours g pb r rb) HBt.out).comp HBi.out (fun k hk => .inr (by omega)))
          go_wp2
          go_ret
          exact ⟨rfl, ⟨_, _, _, HD2.out⟩, HB2.out⟩
  · go_upto_region 23 with (first | (go_at_call 15; refine (read_bad g pb n t B pg of nn _ H.out.p HO.out E HE.out hE0).mono ?_; rintro e w2 ⟨rfl, hw⟩; obtain rfl := hw.symm))
    go_upto_region 24 with (first | (go_at_call 31; refine (rread_bad r rb n t C pg of nn _ H.out.q E HE.out hE0).mono ?_; rintro e w3 ⟨rfl, hw⟩; obtain rfl := hw.symm))
    have cv := conv_none w1
    obtain ⟨sb, hsb⟩ : ∃ sb, sb = strB [] := ⟨_, rfl⟩
    rw [← hsb] at cv
    clear hsb
    go_upto_region 25 with (first | (go_at_call 8; refine (num_any _ _).mono ?_; rintro e w4 ⟨rfl, hw⟩; obtain rfl := hw.symm))
    clear cv
    go_upto_region 26 with fail
    go_loopw [23] (fun v w' => v = .int .i64 0 ∧ w1 = w') (fun _ _ => 0)
    case atStart => exact ⟨rfl, rfl⟩
    case round =>
      obtain ⟨rfl, rfl⟩ := hrel
      go_wp2
      go_ret
      exact ⟨rfl, ⟨_, _, _, H.out⟩, But.of HB.out⟩
end Go.Proofs.Ytfcfacchppkmdaa
