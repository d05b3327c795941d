import Derived.Test.YtpajmpfdaihehaaK2
namespace Go.Proofs.Ytpajmpfdaihehaa
open Go.RowKit
set_option linter.unusedVariables false

theorem parV_form (l : Fo) (n : Int) : ∃ (p : Int) (o : Bool), parV l n = .tuple #[.int .i64 p, .bool o] := by
  unfold parV
  split
  · exact ⟨_, _, rfl⟩
  · exact ⟨_, _, rfl⟩
set_option maxRecDepth 100000 in
set_option maxHeartbeats 4000000 in
theorem all_law (x0 : Int) (a : Option Addr) (k0 cap : Nat) (f : Nat → Op3) (u n : Int) (w : World) (hS : Ss w a k0 f) (hk : k0 ≤ 9223372036854775807) :
    Calls Try.prog 6 #[.int .i64 x0, .slice a k0 cap, .int .i64 u, .int .i64 n] w fun e w' => e = .returned (.bool true) ∧ Below w.heap.size w w' := by
  obtain ⟨m, hm, hmv, hm1, hm2⟩ := rest_pos x0 200 (by omega)
  simp only [Int.cast_ofNat_Int] at hmv hm1 hm2
  have hwr : IntKind.i64.wrap (x0.tmod 200 + 200) = x0.tmod 200 + 200 := wrap_small (by omega) (by omega)
  have HF := hid (forest_any m (by omega) a k0 cap f w hS hk)
  have HS := hid hS
  generalize playL m f k0 = l at HF
  clear hS
  go_enter Try.func6, Try.ntmps6
  go_upto_region 2 with fail
  clear hmv hm1 hm2 hwr
  go_upto_region 5 with (first | (go_at_call 7; refine HF.out.mono ?_; rintro e w1 ⟨g, gb, r, rfl, hD, hB1, hg, hgb, hr⟩; have HD1 := hid hD; have HB1 := hid hB1; clear hD hB1 HF) | (go_at_call 8; refine (alive_any _).mono ?_; rintro e w2 ⟨rfl, hb2⟩; have HD2 := hid (HD1.out.later hb2); have HB2 := hid (below_call HB1.out hb2); clear hb2 HD1 HB1))
  have HA := hid (fun W (hW : Below w2.heap.size w2 W) (p q : Int) => asks_any (HD2.out.later hW) p q)
  go_upto_region 8 with (first | (have hq_ := HB4; clear hq_; go_at_call 26; refine (HA.out _ HB4.out _ _).mono ?_; rintro e w5 ⟨rfl, hb5⟩; have HB5 := hid (below_call HB4.out hb5); clear hb5) | (have hq_ := HB3; clear hq_; go_at_call 26; refine (HA.out _ HB3.out _ _).mono ?_; rintro e w4 ⟨rfl, hb4⟩; have HB4 := hid (below_call HB3.out hb4); clear hb4) | (go_at_call 26; refine (HA.out _ (Below.refl _ _) _ _).mono ?_; rintro e w3 ⟨rfl, hb3⟩; have HB3 := hid hb3; clear hb3))
  clear HB3 HB4
  go_loopw [12] (StepRel w2 k0) (fun t _ => k0 - (intOf t).toNat)
  case atStart => exact ⟨0, Nat.zero_le _, rfl, HB5.out⟩
  case round =>
    clear HB5
    obtain ⟨i, hi, rfl, hB⟩ := hrel
    have HB := hid hB
    clear hB
    by_cases hlt : i < k0 ∧ (i : Int) < 40
    · obtain ⟨hlt, hl40⟩ := hlt
      obtain ⟨b, o, rfl, hc⟩ := HS.out (by omega)
      have hs := (hc i hlt).later (HB2.out.trans (HB.out.mono HB2.out.size))
      have KS0 : Hid (wr.drew.cell? ⟨b, o + i * 3, none⟩ = some (.int .i64 (f i).1) ∧ wr.drew.cell? ⟨b, o + i * 3 + 1, none⟩ = some (.int .i64 (f i).2.1) ∧ wr.drew.cell? ⟨b, o + i * 3 + 2, none⟩ = some (.int .i64 (f i).2.2)) := hid ⟨hs.c0, hs.c1, hs.c2⟩
      have HD0 := hid ((HB.out).drew)
      clear hs hc
      generalize f i = s at KS0
      obtain ⟨kd, pp, kk⟩ := s
      go_upto_region 10 with fail
      go_region_held3 (fun U => U.cell? ⟨b, o + i * 3, none⟩ = some (.int .i64 kd) ∧ U.cell? ⟨b, o + i * 3 + 1, none⟩ = some (.int .i64 pp) ∧ U.cell? ⟨b, o + i * 3 + 2, none⟩ = some (.int .i64 kk)) (first | exact KS4.out | exact KS3.out | exact KS0.out) (first | (have hq_ := KS3; clear hq_; go_at_call 26; refine (HA.out _ HB3.out pp kk).mono ?_; rintro e w4 ⟨rfl, hb4⟩; have KS4 := hid (show w4.cell? ⟨b, o + i * 3, none⟩ = some (.int .i64 kd) ∧ w4.cell? ⟨b, o + i * 3 + 1, none⟩ = some (.int .i64 pp) ∧ w4.cell? ⟨b, o + i * 3 + 2, none⟩ = some (.int .i64 kk) from ⟨cell_later hb4 KS3.out.1, cell_later hb4 KS3.out.2.1, cell_later hb4 KS3.out.2.2⟩); have HB4 := hid (below_call HB3.out hb4); clear hb4) | (go_at_call 26; refine (HA.out _ HD0.out kk n).mono ?_; rintro e w3 ⟨rfl, hb3⟩; have KS3 := hid (show w3.cell? ⟨b, o + i * 3, none⟩ = some (.int .i64 kd) ∧ w3.cell? ⟨b, o + i * 3 + 1, none⟩ = some (.int .i64 pp) ∧ w3.cell? ⟨b, o + i * 3 + 2, none⟩ = some (.int .i64 kk) from ⟨cell_later hb3 KS0.out.1, cell_later hb3 KS0.out.2.1, cell_later hb3 KS0.out.2.2⟩); have HB3 := hid (below_call HD0.out hb3); clear hb3))
      go_wp2
      go_roundw
      case rel => exact ⟨i + 1, by omega, by go_num, HB4.out⟩
      case measure => simp [intOf]; omega
    · go_upto_region 8 with fail
      go_cut [63] from 56 to 62 (fun s w' => s = .bool false ∧ wr = w')
      case first =>
        by_cases hik : i < k0
        · have h40 : ¬ (i : Int) < 40 := fun h => hlt ⟨hik, h⟩
          clear hlt
          go_wp2
          go_meet
          exact ⟨rfl, rfl⟩
        · clear hlt
          go_wp2
          go_meet
          exact ⟨rfl, rfl⟩
      case rest =>
        obtain ⟨rfl, rfl⟩ := hcut
        have HDr := hid (HD2.out.later HB.out)
        have HBr := hid (below_call HB2.out HB.out)
        clear hlt HA HB HD2 HS
        go_upto_region 13 with fail
        go_loopw [13] (StepRel wr m) (fun t _ => m - (intOf t).toNat)
        case atStart => exact ⟨0, Nat.zero_le _, rfl, Below.refl _ _⟩
        case round =>
          obtain ⟨k, hk2, rfl, hB⟩ := hrel
          by_cases hkm : k < m
          · have hD := HDr.out.later hB
            obtain ⟨P, O, hPO⟩ := parV_form l (k : Int)
            have hp := parent_any hD.ki (k : Int)
            have hq := rparent_any hD.re (k : Int)
            rw [hPO] at hp hq
            have HC := hid (children_any hD.ki (k : Int))
            have HRC := hid (fun W (hW : Below _ _ W) => rchildren_any (hD.re.later hW) (k : Int))
            have hkl := kids_len hD.ki.ok (k : Int)
            generalize kids l (k : Int) = A at HC HRC hkl
            have hOO : (O != O) = false := by cases O <;> rfl
            have hPP : (P != P) = false := by simp
            have HB := hid hB
            clear hD hPO hB
            go_wp2_with (first | (go_at_call 13; refine hp.mono ?_; rintro e wA ⟨rfl, hA⟩; subst hA) | (go_at_call 27; refine hq.mono ?_; rintro e wA ⟨rfl, hA⟩; subst hA) | (go_at_call 28; refine HC.out.mono ?_; rintro e w3 ⟨a3, n3, c3, rfl, hO3, hb3⟩; have hl3 := hO3.len; rw [ints_length] at hl3; have HO3 := hid hO3; have HB3 := hid hb3; clear hO3 hb3) | (go_at_call 29; refine (HRC.out _ HB3.out).mono ?_; rintro e w4 ⟨a4, n4, c4, rfl, hO4, hb4⟩; have HN := hid (numbers_true (HO3.out.read.later hb4) hO4.read (by omega)); have HB4 := hid (below_call HB3.out hb4); clear hO4 hb4) | (go_at_call 25; refine HN.out.mono ?_; rintro e w5 ⟨rfl, hb5⟩; have HB5 := hid (below_call HB4.out hb5); clear hb5))
            go_roundw
            case rel => exact ⟨k + 1, by omega, by go_num, HB.out.trans (HB5.out.mono HB.out.size)⟩
            case measure => simp [intOf]; omega
          · obtain rfl : k = m := by omega
            have HE := hid (below_call HBr.out hB)
            clear hB
            go_wp2
            go_ret
            exact ⟨rfl, HE.out⟩
end Go.Proofs.Ytpajmpfdaihehaa
