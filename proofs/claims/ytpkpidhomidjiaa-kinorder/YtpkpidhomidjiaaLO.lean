import Derived.Test.YtpkpidhomidjiaaS1
namespace Go.Proofs.Ytpkpidhomidjiaa
open Go.RowKit
set_option linter.unusedVariables false

def ScrRel (w : World) (g gb m n : Nat) (i : Value) (w' : World) : Prop := ∃ (k : Nat) (l : Fo), k ≤ n ∧ i = .int .i64 (k : Int) ∧ Ki w' g gb m l ∧ Below w.heap.size w w'
def EachRel (w : World) (m : Nat) (i : Value) (w' : World) : Prop := ∃ (k : Nat), k ≤ m ∧ i = .int .i64 (k : Int) ∧ Below w.heap.size w w'
def cnt (p : Int) (q : Nat) : Nat := if 0 ≤ p ∧ p < q then 1 else 0
def CntRel (w : World) (m : Nat) (p : Int) (c i : Value) (w' : World) : Prop := ∃ (q : Nat), q ≤ m ∧ i = .int .i64 (q : Int) ∧ c = .int .i64 (cnt p q : Int) ∧ Below w.heap.size w w'
def InRel (w : World) (A : List Int) (k : Int) (c0 : Nat) (c i : Value) (w' : World) : Prop := ∃ (j : Nat), j ≤ A.length ∧ i = .int .i64 (j : Int) ∧ c = .int .i64 ((c0 + (A.take j).count k : Nat) : Int) ∧ w' = w
def UpRel (w : World) (m : Nat) (l : Fo) (a i : Value) (w' : World) : Prop := ∃ (j : Nat) (x : Int), j ≤ m + 1 ∧ i = .int .i64 (j : Int) ∧ a = .int .i64 x ∧ (x = -1 ∨ ∃ (r : Nat) (p : Int), l[r]? = some (x, p) ∧ r + j < m) ∧ w' = w
set_option maxRecDepth 100000 in
set_option maxHeartbeats 1600000 in
theorem order_law (x0 : Int) (a : Option Addr) (n cap : Nat) (f : Nat → Op3) (nn : Int) (w : World) (hS : Ss w a n f) (hn : n ≤ 9223372036854775807) :
    Calls Try.prog 3 #[.int .i64 x0, .slice a n cap, .int .i64 nn] w fun e w' => e = .returned (.bool true) ∧ Below w.heap.size w w' := by
  have HS := hid hS
  clear hS
  obtain ⟨m, hm, hcase⟩ := rest40 x0
  go_enter Try.func3, Try.ntmps3
  go_upto_if 23 with fail
  go_cut [7] (fun s w' => s = .int .i64 (m : Int) ∧ w = w')
  case first =>
    rcases hcase with ⟨h1, h2⟩ | ⟨h1, h2⟩
    · go_wp2
      go_meet
      exact ⟨by rw [← h2], rfl⟩
    · go_wp2
      go_meet
      exact ⟨by rw [← h2], rfl⟩
  case rest =>
    obtain ⟨rfl, rfl⟩ := hcut
    clear hcase
    go_upto_region 8 with (first | (go_at_call 6; refine (new_ok _ m (by omega)).mono ?_; rintro e w1 ⟨g, gb, rfl, hK1, hg, hgb, hB1⟩; have HK1 := hid hK1; have HB1 := hid hB1; clear hK1 hB1) | (go_at_call 7; refine (num_any _ _).mono ?_; rintro e w9 ⟨rfl, rfl⟩) | (go_at_call 8; refine (alive_any _).mono ?_; rintro e w2 ⟨rfl, hb2⟩; have HK2 := hid (HK1.out.later hb2); have HB2 := hid (below_call HB1.out hb2); clear hb2 HK1 HB1))
    go_loopw [10] (ScrRel w g gb m n) (fun i _ => n - (intOf i).toNat)
    case atStart => exact ⟨0, [], Nat.zero_le _, rfl, HK2.out, HB2.out⟩
    case round =>
      clear HK2 HB2
      obtain ⟨i, l, hi, rfl, hK, hB⟩ := hrel
      have HK := hid hK
      have HB := hid hB
      clear hK hB
      by_cases hlt : i < n
      · obtain ⟨b, o, rfl, hc⟩ := HS.out (by omega)
        have hs := (hc i hlt).later HB.out
        have c0 := hs.c0
        have c1 := hs.c1
        have c2 := hs.c2
        clear hs hc
        generalize f i = s at c0 c1 c2
        obtain ⟨kd, pp, kk⟩ := s
        simp only at c0 c1 c2
        have hd := hid (does_any HK.out kd pp kk)
        go_wp2_with (first | (go_at_call 9; refine hd.out.mono ?_; rintro e w3 ⟨rfl, hK3, hB3⟩; have HK3 := hid hK3; have HB3 := hid (But.below HB.out hB3 (fun k hk => by rw [hk]; exact hgb)); clear hK3 hB3))
        go_roundw
        case rel => exact ⟨i + 1, _, by omega, by go_num, HK3.out, HB3.out⟩
        case measure => simp [intOf]; omega
      · obtain rfl : i = n := by omega
        have HOK := hid HK.out.ok
        go_upto_region 12 with fail
        go_loopw [11] (EachRel wr m) (fun i _ => m - (intOf i).toNat)
        case atStart => exact ⟨0, Nat.zero_le _, rfl, Below.refl _ _⟩
        case round =>
          obtain ⟨k, hk, rfl, hB4⟩ := hrel
          have HB4 := hid hB4
          have HK4 := hid (HK.out.later hB4)
          clear hB4
          by_cases hkm : k < m
          · by_cases hin : (k : Int) ∈ nums l
            · obtain ⟨p, hp⟩ := mem_nums.1 hin
              have hpar := parent_in HK4.out (k : Int) p hp
              have hhas := has_any HK4.out (k : Int)
              rw [decide_eq_true hin] at hhas
              have HP := hid hp
              have hpp : p = -1 ∨ (0 ≤ p ∧ p < m) := by
                rcases HOK.out.up hp with h | h
                · exact .inl h
                · have := HOK.out.range p h
                  exact .inr this
              have HPP := hid hpp
              clear hin hp hpp
              go_upto_region 20 with (first | (go_at_call 10; refine hpar.mono ?_; rintro e w9 ⟨rfl, rfl⟩) | (go_at_call 11; refine hhas.mono ?_; rintro e w9 ⟨rfl, rfl⟩))
              have HB5 := hid (HB4.out)
              clear hpar hhas
              go_loopw [14, 15] (CntRel w9 m p) (fun _ q _ => m - (intOf q).toNat)
              case atStart => exact ⟨0, Nat.zero_le _, rfl, by rw [show cnt p 0 = 0 by unfold cnt; rw [if_neg (by omega)]]; rfl, Below.refl _ _⟩
              case round =>
                obtain ⟨q, hq, rfl, rfl, hB6⟩ := hrel
                have HB6 := hid hB6
                have HK6 := hid (HK4.out.later hB6)
                clear hB6
                by_cases hqm : q < m
                · have HC := hid (children_lst HK6.out (q : Int))
                  have hcl := kids_len HOK.out (q : Int)
                  have HCO := hid (kids_count HOK.out HP.out q)
                  have HPA := hid (fun (hm : (k : Int) ∈ kids l (q : Int)) => kids_par HOK.out HP.out hm)
                  have hC1 : cnt p q ≤ 1 := by unfold cnt; split <;> omega
                  have HCN : Hid (cnt p (q + 1) = cnt p q + if p = (q : Int) then 1 else 0) := hid (by
                    unfold cnt
                    by_cases h1 : p = (q : Int)
                    · rw [if_pos h1, if_pos (by omega), if_neg (by omega)]
                    · rw [if_neg h1]
                      by_cases h2 : 0 ≤ p ∧ p < q
                      · rw [if_pos h2, if_pos (by omega)]
                      · rw [if_neg h2, if_neg (by omega)])
                  generalize cnt p q = C at *
                  generalize kids l (q : Int) = A at *
                  go_upto_region 24 with (first | (go_at_call 12; refine HC.out.mono ?_; rintro e w6 ⟨a6, n6, c6, rfl, hL6, hb6⟩; have hl6 := hL6.1.len; rw [ints_length] at hl6; have HL6 := hid hL6; have HB7 := hid (HB6.out.trans (hb6.mono HB6.out.size)); clear hL6 hb6))
                  go_loopw [14, 17] (InRel w6 A (k : Int) C) (fun _ i _ => n6 - (intOf i).toNat)
                  case atStart => exact ⟨0, Nat.zero_le _, rfl, by simp, rfl⟩
                  case round =>
                    obtain ⟨j, hj, rfl, rfl, rfl⟩ := hrel
                    have hcj : (A.take j).count (k : Int) ≤ j := by
                      have := List.count_le_length (a := (k : Int)) (l := A.take j)
                      rw [List.length_take] at this
                      omega
                    by_cases hjn : j < n6
                    · obtain ⟨b1, o1, rfl, h1⟩ := HL6.out.1.read.plain (by omega)
                      have y1 := h1 j _ (ints_get A j (by omega))
                      have HST := hid (count_step A j (by omega) (k : Int))
                      have HME := hid (List.getElem_mem (l := A) (n := j) (by omega))
                      clear h1
                      generalize A[j] = y at y1 HST HME
                      generalize (A.take j).count (k : Int) = D at *
                      by_cases hy : y = (k : Int)
                      · have HP2 := hid (HPA.out (hy ▸ HME.out))
                        have HST2 : Hid ((A.take (j + 1)).count (k : Int) = D + 1) := hid (by rw [HST.out, if_pos hy])
                        have hpq := HP2.out
                        subst hy
                        clear HST HME HP2 HC
                        go_wp2
                        go_roundw
                        case rel => exact ⟨j + 1, by omega, by go_num, by rw [HST2.out]; go_num, rfl⟩
                        case measure => simp [intOf]; omega
                      · have HST2 : Hid ((A.take (j + 1)).count (k : Int) = D) := hid (by rw [HST.out, if_neg hy, Nat.add_zero])
                        have hy2 : (y == (k : Int)) = false := by simpa using hy
                        clear HST HME HC
                        go_wp2
                        go_roundw
                        case rel => exact ⟨j + 1, by omega, by go_num, by rw [HST2.out], rfl⟩
                        case measure => simp [intOf]; omega
                    · obtain rfl : j = n6 := by omega
                      have HF : Hid (C + (A.take j).count (k : Int) = cnt p (q + 1)) := hid (by rw [HCN.out, List.take_of_length_le (by omega), HCO.out])
                      rw [HF.out]
                      clear HC
                      go_wp2
                      go_roundw
                      case rel => exact ⟨q + 1, by omega, by go_num, rfl, HB7.out⟩
                      case measure => simp [intOf]; omega
                · obtain rfl : q = m := by omega
                  have hc : (p = -1 ∧ cnt p q = 0) ∨ (p ≠ -1 ∧ cnt p q = 1) := by
                    unfold cnt
                    rcases HPP.out with h | h
                    · exact .inl ⟨h, by rw [if_neg (by omega)]⟩
                    · exact .inr ⟨by omega, by rw [if_pos h]⟩
                  obtain ⟨r0, hr0⟩ := List.getElem?_of_mem HP.out
                  have hr1 := (List.getElem?_eq_some_iff.1 hr0).1
                  have hr2 := HOK.out.len
                  have HR0 := hid hr0
                  clear hr0
                  have HB8 := hid (HB5.out.trans (HB6.out.mono HB5.out.size))
                  rcases hc with ⟨hp1, hc1⟩ | ⟨hp1, hc1⟩ <;> rw [hc1] <;> go_upto_region 34 with fail
                  all_goals
                    clear hc1 hp1
                    go_loopw [18, 19] (UpRel wr q l) (fun _ i _ => q + 1 - (intOf i).toNat)
                    case atStart => exact ⟨0, (k : Int), Nat.zero_le _, rfl, rfl, .inr ⟨r0, p, HR0.out, by omega⟩, rfl⟩
                    case round =>
                      obtain ⟨j, x, hj, rfl, rfl, hx, rfl⟩ := hrel
                      rcases hx with rfl | ⟨r, p2, hr, hrj⟩
                      · by_cases hjq : j ≤ q
                        · go_wp2
                          go_roundw
                          case rel => exact ⟨k + 1, by omega, by go_num, HB8.out⟩
                          case measure => simp [intOf]; omega
                        · go_wp2
                          go_roundw
                          case rel => exact ⟨k + 1, by omega, by go_num, HB8.out⟩
                          case measure => simp [intOf]; omega
                      · have hmem := List.mem_of_getElem? hr
                        have hx0 := HOK.out.range x (mem_nums.2 ⟨p2, hmem⟩)
                        have hpar := parent_in HK6.out x p2 hmem
                        have HNX := hid (HOK.out.par r x p2 hr)
                        clear hmem hr
                        go_wp2_with (first | (go_at_call 10; refine hpar.mono ?_; rintro e w9 ⟨rfl, rfl⟩))
                        go_roundw
                        case rel =>
                          have hrel2 : p2 = -1 ∨ ∃ (r : Nat) (p : Int), l[r]? = some (p2, p) ∧ r + (j + 1) < q := by
                            rcases HNX.out with h | ⟨i2, q2, h1, h2⟩
                            · exact .inl h
                            · exact .inr ⟨i2, q2, h2, by omega⟩
                          first | exact ⟨j + 1, p2, by omega, by go_num, rfl, hrel2, rfl⟩ | ((repeat apply Exists.intro); exact ⟨⟨j + 1, p2, by omega, by go_num, rfl, hrel2, rfl⟩, rfl⟩)
                        case measure => simp [intOf]; omega
            · have hpar := parent_out HK4.out (k : Int) hin
              have hhas := has_any HK4.out (k : Int)
              rw [decide_eq_false hin] at hhas
              have hch := children_any HK4.out (k : Int)
              rw [kids_out HOK.out hin] at hch
              have HC := hid hch
              clear hch hin
              go_wp2_with (first | (go_at_call 10; refine hpar.mono ?_; rintro e w9 ⟨rfl, rfl⟩) | (go_at_call 11; refine hhas.mono ?_; rintro e w9 ⟨rfl, rfl⟩) | (go_at_call 12; refine HC.out.mono ?_; rintro e w5 ⟨a5, n5, c5, rfl, hO5, hb5⟩; have hl5 := hO5.len; rw [ints_length] at hl5; obtain rfl : 0 = n5 := hl5; have HB5 := hid (HB4.out.trans (hb5.mono HB4.out.size)); clear hO5 hb5))
              go_roundw
              case rel => exact ⟨k + 1, by omega, by go_num, HB5.out⟩
              case measure => simp [intOf]; omega
          · obtain rfl : k = m := by omega
            have hl := hid (last_any HK4.out nn)
            have HB5 := hid (HB.out.trans (HB4.out.mono HB.out.size))
            go_wp2_with (first | (go_at_call 13; refine hl.out.mono ?_; rintro e w5 ⟨rfl, hb5⟩; have HB6 := hid (But.below HB5.out hb5 (fun k hk => by rw [hk]; exact hgb)); clear hb5))
            go_ret
            exact ⟨rfl, HB6.out⟩
end Go.Proofs.Ytpkpidhomidjiaa
