import Derived.Test.YtfcfacchppkmdaaS2
namespace Go.Proofs.Ytfcfacchppkmdaa
open Go.RowKit
set_option linter.unusedVariables false
set_option linter.unusedSimpArgs false

theorem lt_of_ours {w : World} {g pb r rb n : Nat} {t : Nat → Bool} {B C : Nat → Nat → Nat} (h : Duo w g pb r rb n t B C) : ¬ Ours g pb r rb w.heap.size := fun e => by have := h.lt _ e; omega
/-- Both take the same pages. -/
theorem Duo.take {w w1 w2 : World} {g pb r rb n : Nat} {t : Nat → Bool} {B C : Nat → Nat → Nat} {M : List Nat} (h : Duo w g pb r rb n t B C) (hM : ∀ i ∈ M, t i = false) (h1 : Arn w1 g pb n (tk t M) B) (hb : But (· = rb) w1 w2) (h2 : Ref w2 r rb n (tk t M) (rB C M)) : Duo w2 g pb r rb n (tk t M) B (rB C M) := by
  refine ⟨h1.but hb h.ap.2.1 h.ap.2.2.2, h2, fun i j hi hj => ?_, h.ap⟩
  unfold rB
  by_cases e : i ∈ M
  · rw [if_pos e]
    exact (h.p.zero i j (hM i e)).symm
  · rw [if_neg e]
    exact h.same i j (by simpa [tk, e] using hi) hj
set_option maxRecDepth 100000 in
set_option maxHeartbeats 2000000 in
theorem step_1 (g pb r rb n : Nat) (t : Nat → Bool) (B C : Nat → Nat → Nat) (o : Ops) (w : World) (h : Duo w g pb r rb n t B C) (hk : o.kd = 1) :
    Calls Try.prog 20 #[.pointer (some ⟨g, 0, none⟩), .pointer (some ⟨r, 0, none⟩), .agg (opCells o)] w fun e w' => e = .returned (.bool true) ∧ Left g pb r rb n w w' := by
  obtain ⟨X, hX⟩ : ∃ X, X = opCells o := ⟨_, rfl⟩
  have hbx := Bx.new w o
  rw [← hX] at hbx ⊢
  have k1 : (o.kd == 1) = true := by simp [hk]
  have hB1 : Below w.heap.size w (w.alloc (.cells X 51)) := below1 _ _
  have H := hid (h.later hB1)
  have HL := hid h.lt
  have HX := hid hbx
  have HB := hid hB1
  have x0 := hbx.c0
  clear h hX hbx hB1 hk
  go_enter Try.func20, Try.ntmps20
  go_upto_region 3 with fail
  generalize w.alloc (.cells X 51) = w1 at H HX HB x0 ⊢
  have x3 := HX.out.c3
  have hng : ¬ (w.heap.size = g) := fun e => by have := HL.out _ (.inl e); omega
  obtain ⟨nn, hnn⟩ : ∃ nn, nn = o.nn := ⟨_, rfl⟩
  rw [← hnn] at x3
  clear hnn
  by_cases hneg : nn < 0
  · go_upto_region 4 with (first | (go_at_call 10; refine (take_neg g nn _ hneg).mono ?_; rintro e w2 ⟨rfl, hw⟩; obtain rfl := hw.symm))
    go_upto_region 5 with (first | (go_at_call 28; refine (rtake_neg r nn _ hneg).mono ?_; rintro e w2 ⟨rfl, hw⟩; obtain rfl := hw.symm))
    go_upto_region 7 with (first | (go_at_call 17; refine (numbers_eq _ _ _ _ _ _ [] _ (row_nil _) (row_nil _) (by omega)).mono ?_; rintro e w3 ⟨rfl, b3⟩; replace H := hid (H.out.later b3); replace HB := hid (below_call HB.out b3); clear b3) | (go_at_call 8; refine (num_any _ _).mono ?_; rintro e w4 ⟨rfl, hw⟩; obtain rfl := hw.symm))
    go_loopw [12] (fun v w' => v = .int .i64 0 ∧ w3 = w') (fun _ _ => 0)
    case atStart => exact ⟨rfl, rfl⟩
    case round =>
      obtain ⟨rfl, rfl⟩ := hrel
      go_wp2
      go_ret
      exact ⟨rfl, ⟨_, _, _, H.out⟩, But.of HB.out⟩
  · by_cases hmany : ((lst n t false).length : Int) < nn
    · go_upto_region 4 with (first | (go_at_call 10; refine (take_many g pb n t B nn _ H.out.p (by omega) hmany).mono ?_; rintro e w2 ⟨rfl, b2⟩; replace H := hid (H.out.later b2); replace HB := hid (below_call HB.out b2); replace x3 := cell_later b2 x3; clear b2))
      go_upto_region 5 with (first | (go_at_call 28; refine (rtake_many r rb n t C nn _ H.out.q (by omega) hmany).mono ?_; rintro e w3 ⟨rfl, b3⟩; replace H := hid (H.out.later b3); replace HB := hid (below_call HB.out b3); clear b3))
      go_upto_region 7 with (first | (go_at_call 17; refine (numbers_eq _ _ _ _ _ _ [] _ (row_nil _) (row_nil _) (by omega)).mono ?_; rintro e w4 ⟨rfl, b4⟩; replace H := hid (H.out.later b4); replace HB := hid (below_call HB.out b4); clear b4) | (go_at_call 8; refine (num_any _ _).mono ?_; rintro e w5 ⟨rfl, hw⟩; obtain rfl := hw.symm))
      go_loopw [12] (fun v w' => v = .int .i64 0 ∧ w4 = w') (fun _ _ => 0)
      case atStart => exact ⟨rfl, rfl⟩
      case round =>
        obtain ⟨rfl, rfl⟩ := hrel
        go_wp2
        go_ret
        exact ⟨rfl, ⟨_, _, _, H.out⟩, But.of HB.out⟩
    · obtain ⟨K, rfl⟩ : ∃ K : Nat, nn = (K : Int) := ⟨nn.toNat, by omega⟩
      have hK : K ≤ (lst n t false).length := by omega
      have hK2 : K ≤ 256 := Nat.le_trans hK (Nat.le_trans (lst_length n t false) H.out.p.le)
      clear hneg hmany
      go_upto_region 4 with (first | (go_at_call 10; refine (take_ok g pb n t B K _ H.out.p hK).mono ?_; rintro e w2 ⟨a, rfl, N2, A2, b2⟩))
      have HQ := hid (H.out.q.but b2 (fun e => H.out.ap.1 e.symm) (fun e => H.out.ap.2.1 e.symm))
      have HBt : Hid (But (Ours g pb r rb) w w2) := hid ((But.of HB.out).trans (b2.mono (fun k hk => .inl hk)))
      replace x3 := cell_but b2 x3 hng
      have HA2 := hid A2
      have HN2 := hid N2
      have hz2 := b2.size
      clear A2 N2 b2
      go_upto_region 5 with (first | (go_at_call 28; refine (rtake_ok r rb n t C K _ HQ.out hK).mono ?_; rintro e w3 ⟨am, cm, rfl, O3, A3, b3⟩))
      have HD := hid (H.out.take (M := (lst n t false).take K) (fun i hi => (mem_lst.1 (List.mem_of_mem_take hi)).2) HA2.out b3 A3)
      replace HBt := hid (HBt.out.trans (b3.mono (fun k hk => .inr (.inr (.inr hk)))))
      have hge : ∀ k, Blk a k → w1.heap.size ≤ k := HN2.out.ge
      replace HN2 := hid (HN2.out.but b3 (fun k hk e => by have h1 := hge k hk; have h2 := H.out.q.lt; omega))
      have HO3 := hid O3
      clear b3 A3 O3 HA2 HQ
      go_upto_region 6 with (first | (go_at_call 17; refine (numbers_eq _ _ _ _ _ _ (nats ((lst n t false).take K)) _ HN2.out.row HO3.out.read (by omega)).mono ?_; rintro e w4 ⟨rfl, b4⟩; replace HD := hid (HD.out.later b4); replace HBt := hid (HBt.out.call b4); replace HN2 := hid (HN2.out.later b4); clear b4) | (go_at_call 8; refine (num_any _ _).mono ?_; rintro e w5 ⟨rfl, hw⟩; obtain rfl := hw.symm))
      clear HO3
      have HLT := hid H.out.lt
      have HBS := HB.out.size
      by_cases hK0 : K = 0
      · subst hK0
        simp only [Int.cast_ofNat_Int]
        go_upto_region 7 with fail
        go_loopw [12] (fun v w' => v = .int .i64 0 ∧ w4 = w') (fun _ _ => 0)
        case atStart => exact ⟨rfl, rfl⟩
        case round =>
          obtain ⟨rfl, rfl⟩ := hrel
          go_wp2
          go_ret
          exact ⟨rfl, ⟨_, _, _, HD.out⟩, HBt.out⟩
      · obtain ⟨b, o1, rfl, _⟩ := HN2.out.row.plain (by omega)
        have HSP := hid HN2.out.spot
        have hbg : w1.heap.size ≤ b := hge b ⟨_, rfl, rfl⟩
        clear HN2 hge
        go_upto_region 7 with fail
        go_loopw [12] (OvRel w4 b o1 K) (fun k _ => K - (intOf k).toNat)
        case atStart => exact ⟨0, rfl, Nat.zero_le _, HSP.out, But.refl _ _⟩
        case round =>
          obtain ⟨i, rfl, hi, hS, hB⟩ := hrel
          have HS := hid hS
          have HBi := hid hB
          clear hS hB
          by_cases hlt : i < K
          · have hd : decide ((i : Int) < (K : Int)) = true := decide_eq_true (by omega)
            obtain ⟨v, hv⟩ := HS.out i hlt
            have v1 := hv.1
            have v2 := hv.2
            have HS2 := hid (HS.out.put (u := .int .i64 (-9)) hlt)
            have HB2 := hid (HBi.out.setCell (p := ⟨b, o1 + i, none⟩) (show b = b from rfl) (.int .i64 (-9)))
            clear hv
            go_wp2
            exact ⟨⟨i + 1, rfl, by omega, HS2.out, HB2.out⟩, by simp [intOf]; omega⟩
          · obtain rfl : K = i := by omega
            have hd : decide ((K : Int) < (K : Int)) = false := by simp
            have HD2 := hid (HD.out.but HBi.out (fun k hk e => by have := HLT.out k hk; omega))
            have HB2 := hid (HBt.out.comp HBi.out (fun k hk => .inr (by omega)))
            go_wp2
            go_ret
            exact ⟨rfl, ⟨_, _, _, HD2.out⟩, HB2.out⟩
end Go.Proofs.Ytfcfacchppkmdaa
