import Derived.Test.YtfibidfkhfkfpaaK1
namespace Go.Proofs.Ytfibidfkhfkfpaa
open Go.RowKit
set_option linter.unusedVariables false

/-- A list of whole numbers. -/
structure Is (w : World) (x : Option Addr) (m cap : Nat) (s : Nat → Int) : Prop where
  cap_ : m ≤ cap
  plain : 0 < m → ∃ b o, x = some ⟨b, o, none⟩ ∧ ∀ i, i < m → w.cell? ⟨b, o + i, none⟩ = some (.int .i64 (s i))
theorem Is.later {w w' : World} {x : Option Addr} {m cap : Nat} {s : Nat → Int} (hb : Below w.heap.size w w') (h : Is w x m cap s) : Is w' x m cap s :=
  ⟨h.cap_, fun h0 => by
    obtain ⟨b, o, rfl, hc⟩ := h.plain h0
    exact ⟨b, o, rfl, fun i hi => cell_later hb (hc i hi)⟩⟩
def OutRel (w : World) (g gb n : Nat) (c : Nat → Nat) (v : Value) (w' : World) : Prop :=
  ∃ (i : Int) (t : Nat), v = .int .i64 i ∧ -1 ≤ i ∧ i ≤ 12 ∧ (i = -1 → t = 0) ∧ Dr w' g gb n c t ∧ Below w.heap.size w w'
def InRel (w : World) (g gb n : Nat) (c : Nat → Nat) (v k : Value) (w' : World) : Prop :=
  ∃ (t : Nat) (j : Nat), v = .int .i64 (t : Int) ∧ k = .int .i64 (j : Int) ∧ j ≤ t ∧ Dr w' g gb n c t ∧ Below w.heap.size w w'
set_option maxRecDepth 100000 in
set_option maxHeartbeats 2000000 in
theorem order_walk (a x : Option Addr) (n0 m cap cx : Nat) (v : Int) (f : Nat → Nat) (s : Nat → Int) (w : World) (hR : Ws w a n0 cap f) (hS : Is w x m cx s) :
    Calls Try.prog 4 #[.slice a n0 cap, .int .i64 v, .slice x m cx] w fun e w' => e = .returned (.bool true) ∧ Below w.heap.size w w' := by
  obtain ⟨W, hW, hW1, hW2⟩ := width_in v
  have t1 : -128 < v.tmod 128 := Int.lt_tmod_of_pos v (by omega)
  have t2 : v.tmod 128 < 128 := Int.tmod_lt_of_pos v (by omega)
  obtain ⟨n, hn, hR1, hcase⟩ := first_n hR 4096 (by omega)
  have HR : Hid (Ws w a n cap f) := hR1
  have HS : Hid (Is w x m cx s) := hS
  have HP : Hid (Ws w a n0 cap f) := hR
  clear hS hR1 hR
  go_enter Try.func4, Try.ntmps4
  go_upto_if 22 with fail
  clear hW t1 t2
  go_cut [0] (fun s w' => s = .slice a n cap ∧ w = w')
  case first =>
    rcases hcase with ⟨h1, rfl⟩ | ⟨h1, rfl⟩
    · go_wp2
      go_meet
      case rel => exact ⟨rfl, rfl⟩
    · obtain ⟨b, o, rfl, _⟩ := HP.out.plain (by omega)
      have hcp := HP.out.cap_
      go_wp2
      go_meet
      case rel => exact ⟨rfl, rfl⟩
  case rest =>
    clear HP hcase
    obtain ⟨rfl, rfl⟩ := hcut
    go_upto_region 7 with (first | (go_at_call 6; refine (new_ok a n cap f W _ HR.out hW1 hW2 hn).mono ?_; rintro e w1 ⟨g, gb, rfl, D0, hg, hgb, hgl, hb1⟩) | (go_at_call 7; refine (known_any _).mono ?_; rintro e w2 ⟨rfl, hb2⟩))
    have HD0 : Hid (Dr w2 g gb n (fun j => cutN (f j) W) 0) := D0.later hb2
    have HB0 : Hid (Below w.heap.size w w2) := below_call hb1 hb2
    obtain ⟨c, hc⟩ : ∃ c : Nat → Nat, c = fun j => cutN (f j) W := ⟨_, rfl⟩
    rw [← hc] at HD0
    have HC : Hid (∀ j, c j = cutN (f j) W) := fun j => by rw [hc]
    clear hc D0 hb1 hb2
    go_wp2
    go_loopw [9] (OutRel w g gb n c) (fun t _ => (12 - intOf t).toNat)
    case atStart => exact ⟨-1, 0, rfl, by omega, by omega, fun _ => rfl, HD0.out, HB0.out⟩
    case round =>
      clear HD0 HB0
      obtain ⟨i, t, rfl, hi1, hi2, hi3, hD, hB⟩ := hrel
      have HD : Hid (Dr wr g gb n c t) := hD
      have HB : Hid (Below w.heap.size w wr) := hB
      clear hD hB
      by_cases hlt : i < (m : Int) ∧ i < 12
      · obtain ⟨hl1, hl2⟩ := hlt
        go_upto_if 52 with fail
        go_cut [10] (fun q w' => ∃ t1 : Nat, q = .int .i64 (t1 : Int) ∧ Dr w' g gb n c t1 ∧ Below w.heap.size w w')
        case first =>
          by_cases h0 : i < 0
          · obtain rfl : i = -1 := by omega
            obtain rfl := hi3 rfl
            go_wp2
            go_meet
            case rel => exact ⟨0, rfl, HD.out, HB.out⟩
          · obtain ⟨j, rfl⟩ : ∃ j : Nat, i = (j : Int) := ⟨i.toNat, by omega⟩
            have hjm : j < m := by omega
            have HS1 : Hid (Is wr x m cx s) := HS.out.later HB.out
            obtain ⟨b, o, rfl, hcell⟩ := HS1.out.plain (by omega)
            have y := hcell j hjm
            clear hcell
            by_cases hs : 0 ≤ s j ∧ s j ≤ (n : Int)
            · obtain ⟨k, hk⟩ : ∃ k : Nat, s j = (k : Int) := ⟨(s j).toNat, by omega⟩
              rw [hk] at y hs
              have hkn : k ≤ n := by omega
              have hs2 : (k : Int) ≤ (n : Int) := hs.2
              clear hs
              go_wp2_with (first | (go_at_call 9; refine (taken_any g gb n c t _ HD.out).mono ?_; rintro e w6 ⟨rfl, rfl⟩) | (go_at_call 12; refine (skip_ok g gb n c t k _ HD.out hkn).mono ?_; rintro e w5 ⟨rfl, D5, hb5⟩; have B5 := below_but HB.out hb5 hg; obtain ⟨b5, o5, he5, hcell5⟩ := (HS.out.later B5).plain (by omega); simp only [Option.some.injEq, Addr.mk.injEq, and_true] at he5; obtain ⟨rfl, rfl⟩ := he5; have y5 := hcell5 j hjm; rw [hk] at y5; clear hcell5))
              go_meet
              case rel => exact ⟨k, rfl, D5, B5⟩
            · by_cases hs0 : s j < 0
              · generalize s j = q at y hs hs0
                have hd : decide (0 ≤ q) = false := decide_eq_false (by omega)
                go_wp2_with (first | (go_at_call 9; refine (taken_any g gb n c t _ HD.out).mono ?_; rintro e w6 ⟨rfl, rfl⟩) | (go_at_call 12; refine (skip_bad g gb n c t q _ HD.out hs).mono ?_; rintro e w5 ⟨rfl, rfl⟩))
                go_meet
                case rel => exact ⟨t, rfl, HD.out, HB.out⟩
              · obtain ⟨k, hk⟩ : ∃ k : Nat, s j = (k : Int) := ⟨(s j).toNat, by omega⟩
                rw [hk] at y hs hs0
                have hd : decide ((k : Int) ≤ (n : Int)) = false := decide_eq_false (by omega)
                clear hs0
                go_wp2_with (first | (go_at_call 9; refine (taken_any g gb n c t _ HD.out).mono ?_; rintro e w6 ⟨rfl, rfl⟩) | (go_at_call 12; refine (skip_bad g gb n c t (k : Int) _ HD.out hs).mono ?_; rintro e w5 ⟨rfl, rfl⟩))
                go_meet
                case rel => exact ⟨t, rfl, HD.out, HB.out⟩
        case rest =>
          clear HD HB hi3
          obtain ⟨t1, rfl, hD, hB⟩ := hcut
          have HD1 : Hid (Dr wc g gb n c t1) := hD
          have HB1 : Hid (Below w.heap.size w wc) := hB
          clear hD hB
          go_wp2
          go_loopw [10, 12] (InRel w g gb n c) (fun t _ _ => n - (intOf t).toNat)
          case atStart => exact ⟨t1, 0, rfl, rfl, Nat.zero_le _, HD1.out, HB1.out⟩
          case round =>
            clear HD1 HB1
            obtain ⟨t2, j, rfl, rfl, hj, hD, hB⟩ := hrel
            have HD2 : Hid (Dr wr g gb n c t2) := hD
            have HB2 : Hid (Below w.heap.size w wr) := hB
            have hle := hD.le
            clear hD hB
            go_upto_region 19 with fail
            go_cut [97] (fun q w' => q = .bool (decide ((j : Int) < 40 ∨ i < 0)) ∧ wr = w')
            case first =>
              by_cases h1 : (j : Int) < 40
              · have hd := decide_eq_true (p := (j : Int) < 40 ∨ i < 0) (.inl h1)
                go_wp2
                go_meet
                case rel => exact ⟨by rw [hd], rfl⟩
              · by_cases h2 : i < 0
                · have hd := decide_eq_true (p := (j : Int) < 40 ∨ i < 0) (.inr h2)
                  go_wp2
                  go_meet
                  case rel => exact ⟨by rw [hd], rfl⟩
                · have hd := decide_eq_false (p := (j : Int) < 40 ∨ i < 0) (by omega)
                  go_wp2
                  go_meet
                  case rel => exact ⟨by rw [hd], rfl⟩
            case rest =>
              obtain ⟨rfl, rfl⟩ := hcut
              by_cases hp : (j : Int) < 40 ∨ i < 0
              · rw [decide_eq_true hp]
                clear hp
                have hneq := neqW
                by_cases htn : t2 < n
                · have hR2 := HR.out.later HB2.out
                  obtain ⟨b, o, rfl, hcell⟩ := hR2.plain (by omega)
                  have Hcell : Hid (∀ i, i < n → Wd wr b (o + i * 2) (f i)) := hcell
                  clear hcell hR2
                  have hsm := HR.out.small t2
                  have hct := HC.out t2
                  have hself := wEq_self (hiI (cutN (f t2) W)) (loI (cutN (f t2) W))
                  have hd1 : ((t2 : Int) == (n : Int)) = false := by simp; omega
                  go_upto_region 27 with (first | (go_at_call 9; refine (taken_any g gb n c t2 _ HD2.out).mono ?_; rintro e w6 ⟨rfl, rfl⟩) | (go_at_call 10; refine (left_int g gb n c t2 _ HD2.out).mono ?_; rintro e w7 ⟨rfl, hb7⟩; have D7 := HD2.out.later hb7; have B7 := below_call HB2.out hb7) | (go_at_call 8; refine (draw_more g gb n c t2 _ D7 htn).mono ?_; rintro e w8 ⟨rfl, D8, hb8⟩; have B8 := below_but B7 hb8 hg))
                  have X8 := Box.new w8 (hiI (cutN (f t2) W)) (loI (cutN (f t2) W))
                  have hR8 := (HR.out.later B8).alloc (.cells #[.int .u64 (hiI (cutN (f t2) W)), .int .u64 (loI (cutN (f t2) W))] 25)
                  obtain ⟨b', o', he8, hcell8⟩ := hR8.plain (by omega)
                  simp only [Option.some.injEq, Addr.mk.injEq, and_true] at he8
                  obtain ⟨rfl, rfl⟩ := he8
                  have Y8 := hcell8 t2 htn
                  have HY : Hid (∀ w' : World, Below (w8.alloc (.cells #[.int .u64 (hiI (cutN (f t2) W)), .int .u64 (loI (cutN (f t2) W))] 25)).heap.size (w8.alloc (.cells #[.int .u64 (hiI (cutN (f t2) W)), .int .u64 (loI (cutN (f t2) W))] 25)) w' → (w'.cell? ⟨w8.heap.size, 0, none⟩ = some (.int .u64 (hiI (cutN (f t2) W))) ∧ w'.cell? ⟨w8.heap.size, 1, none⟩ = some (.int .u64 (loI (cutN (f t2) W))) ∧ w'.cell? ⟨b, o + t2 * 2, none⟩ = some (.int .u64 (hiI (f t2))) ∧ w'.cell? ⟨b, o + t2 * 2 + 1, none⟩ = some (.int .u64 (loI (f t2)))) ∧ Below (w8.alloc (.cells #[.int .u64 (hiI (cutN (f t2) W)), .int .u64 (loI (cutN (f t2) W))] 25)).heap.size (w8.alloc (.cells #[.int .u64 (hiI (cutN (f t2) W)), .int .u64 (loI (cutN (f t2) W))] 25)) w') := fun w' hb => ⟨⟨cell_later hb X8.1, cell_later hb X8.2, cell_later hb Y8.1, cell_later hb Y8.2⟩, hb⟩
                  clear X8 Y8 hcell8 hR8
                  go_region_held3 (fun w' => (w'.cell? ⟨w8.heap.size, 0, none⟩ = some (.int .u64 (hiI (cutN (f t2) W))) ∧ w'.cell? ⟨w8.heap.size, 1, none⟩ = some (.int .u64 (loI (cutN (f t2) W))) ∧ w'.cell? ⟨b, o + t2 * 2, none⟩ = some (.int .u64 (hiI (f t2))) ∧ w'.cell? ⟨b, o + t2 * 2 + 1, none⟩ = some (.int .u64 (loI (f t2)))) ∧ Below (w8.alloc (.cells #[.int .u64 (hiI (cutN (f t2) W)), .int .u64 (loI (cutN (f t2) W))] 25)).heap.size (w8.alloc (.cells #[.int .u64 (hiI (cutN (f t2) W)), .int .u64 (loI (cutN (f t2) W))] 25)) w') (first | exact HY.out _ (Below.refl _ _).drew | exact HY.out _ (keep_call hb9 (Nat.le_refl _) (by assumption))) (first | (go_at_call 11; refine (lcut_any _ _ _ hsm hW1 hW2).mono ?_; rintro e w9 ⟨rfl, hb9⟩))
                  go_wp2
                  have B9 := below_call (below_call B8 (below1 _ _)).drew hb9
                  have D9 := (D8.alloc _).drew.later hb9
                  exact ⟨⟨t2 + 1, j + 1, by go_num, by go_num, by omega, D9, B9⟩, by simp [intOf]; omega⟩
                · obtain rfl : n = t2 := by omega
                  go_wp2_with (first | (go_at_call 9; refine (taken_any g gb n c n _ HD2.out).mono ?_; rintro e w6 ⟨rfl, rfl⟩) | (go_at_call 10; refine (left_int g gb n c n _ HD2.out).mono ?_; rintro e w7 ⟨rfl, hb7⟩; have D7 := HD2.out.later hb7; have B7 := below_call HB2.out hb7) | (go_at_call 8; refine (draw_end g gb n c _ D7).mono ?_; rintro e w8 ⟨rfl, hb8⟩; have B8 := below_call B7 hb8))
                  exact ⟨⟨i + 1, n, by go_num, by omega, by omega, fun h => by omega, (D7.later hb8).alloc _, below_call B8 (below1 _ _)⟩, by simp [intOf]; omega⟩
              · rw [decide_eq_false hp]
                go_wp2
                exact ⟨⟨i + 1, t2, by go_num, by omega, by omega, fun h => by omega, HD2.out, HB2.out⟩, by simp [intOf]; omega⟩
      · by_cases h1 : i < (m : Int)
        · have h2 : ¬ i < 12 := fun h => hlt ⟨h1, h⟩
          clear hlt
          go_wp2
          go_ret
          exact ⟨rfl, HB.out⟩
        · clear hlt
          go_wp2
          go_ret
          exact ⟨rfl, HB.out⟩
end Go.Proofs.Ytfibidfkhfkfpaa
