import Derived.Test.YtcafmhlnfkgegaaR8
namespace Go.Proofs.Ytcafmhlnfkgegaa
open Go.RowKit

def InRel (w : World) (M V T : Nat) (t : Value) (w' : World) : Prop :=
  ∃ j : Nat, j ≤ 4 ∧ t = .int .i64 (j : Int) ∧ ParseAt w w' (M + V % 2 ^ j * 2 ^ T)
theorem in_zero {M V T j : Nat} (hM : ∃ q, M = q * 2 ^ (T + 4)) (hj : j < 4) : bitN (M + V % 2 ^ j * 2 ^ T) (T + j) = 0 := by
  obtain ⟨q, rfl⟩ := hM
  unfold bitN
  have hp := Nat.two_pow_pos j
  have e1 : q * 2 ^ (T + 4) + V % 2 ^ j * 2 ^ T = 2 ^ T * (q * 16 + V % 2 ^ j) := by
    rw [Nat.pow_add, Nat.mul_add, show (2 : Nat) ^ 4 = 16 by decide]
    congr 1
    · rw [← Nat.mul_assoc, Nat.mul_comm, Nat.mul_comm q (2 ^ T), Nat.mul_comm 16, Nat.mul_assoc]
    · rw [Nat.mul_comm]
  rw [e1, Nat.pow_add, ← Nat.div_div_eq_div_mul, Nat.mul_div_cancel_left _ (Nat.two_pow_pos T)]
  have hr : V % 2 ^ j < 2 ^ j := Nat.mod_lt _ hp
  rcases (by omega : j = 0 ∨ j = 1 ∨ j = 2 ∨ j = 3) with rfl | rfl | rfl | rfl <;> simp at hr ⊢ <;> omega
theorem ParseAt.later {w w' w1 : World} {N : Nat} (h : ParseAt w w' N) (hb : Below w'.heap.size w' w1) : ParseAt w w1 N := by
  obtain ⟨c, d, hv, l0, l1⟩ := h.word
  exact ⟨below_call h.below hb, h.res0.later hb, h.res1.later hb, c, d, hv, l0.later hb, l1.later hb⟩
def RParseRel (s : ByteArray) (w : World) (t : Value) (w' : World) : Prop :=
  ∃ k : Nat, k ≤ s.size ∧ t = .int .i64 (k : Int) ∧ ParseAt w w' (hexVal ((natsOf s).take k) * 16 ^ (s.size - k)) ∧ ((natsOf s).take k).all isHex = true
theorem rp_next {s : ByteArray} {k : Nat} (hk : k < s.size) : hexVal ((natsOf s).take (k + 1)) * 16 ^ (s.size - (k + 1)) = hexVal ((natsOf s).take k) * 16 ^ (s.size - k) + digitV s[k].toNat * 2 ^ (4 * (s.size - 1 - k)) := by
  rw [natsOf_take s k hk, hexVal_snoc]
  obtain ⟨d, hd⟩ : ∃ d, s.size - k = d + 1 := ⟨s.size - k - 1, by omega⟩
  have e1 : s.size - (k + 1) = d := by omega
  have e2 : s.size - 1 - k = d := by omega
  rw [e1, e2, hd, Nat.pow_succ, Nat.pow_mul, Nat.add_mul, Nat.mul_assoc, Nat.mul_comm 16]
theorem rp_mult {s : ByteArray} {k : Nat} (hk : k < s.size) : ∃ q, hexVal ((natsOf s).take k) * 16 ^ (s.size - k) = q * 2 ^ (4 * (s.size - 1 - k) + 4) := by
  refine ⟨hexVal ((natsOf s).take k), ?_⟩
  have e : 4 * (s.size - 1 - k) + 4 = 4 * (s.size - k) := by omega
  rw [e, Nat.pow_mul]
theorem parse_bad {s : ByteArray} {k : Nat} (hk : k < s.size) (hx : isHex s[k].toNat = false) : parseOk (natsOf s) = false := by
  have ha : (natsOf s).all isHex = false := by
    rw [List.all_eq_false]
    refine ⟨s[k].toNat, List.mem_of_getElem? (natsOf_get s k hk), by simpa using hx⟩
  unfold parseOk
  rw [ha, Bool.and_false]
theorem text_not {s : ByteArray} (hl : s.size ≤ 32) (h : parseOk (natsOf s) = false) : strB (textL (hexVal (natsOf s))) ≠ s := by
  intro e
  have hlt : hexVal (natsOf s) < B64 * B64 := by
    calc hexVal (natsOf s) < 16 ^ (natsOf s).length := hexVal_lt _
      _ ≤ 16 ^ 32 := Nat.pow_le_pow_right (by omega) (by rw [natsOf_length]; exact hl)
      _ = B64 * B64 := by decide
  have := (text_parse hlt).1
  rw [e, h] at this
  cases this

set_option maxHeartbeats 400000 in
theorem rParse_bounds (s : ByteArray) (w : World) (h : s.size < 1 ∨ 32 < s.size) :
    Calls Try.prog 21 #[.string s] w fun e w' => e = .returned (.tuple #[.agg #[.int .u64 0, .int .u64 0], .int .i64 22]) ∧ Below w.heap.size w w' := by
  rcases h with h | h
  · go_enter Try.func21, Try.ntmps21
    go_wp2
    exact bodyPost_ret (v := .tuple #[.agg #[.int .u64 0, .int .u64 0], .int .i64 22]) (by simp [results, Try.results21, go_sem]) rfl ⟨rfl, below1 _ _⟩
  · have h' : ¬ s.size < 1 := by omega
    go_enter Try.func21, Try.ntmps21
    go_wp2
    exact bodyPost_ret (v := .tuple #[.agg #[.int .u64 0, .int .u64 0], .int .i64 22]) (by simp [results, Try.results21, go_sem]) rfl ⟨rfl, below1 _ _⟩

set_option maxRecDepth 100000 in
set_option maxHeartbeats 4000000 in
theorem rParse_loop (s : ByteArray) (w : World) (h1 : 1 ≤ s.size) (h2 : s.size ≤ 32) :
    Calls Try.prog 21 #[.string s] w fun e w' => ∃ c d : Int, e = .returned (.tuple #[.agg #[.int .u64 c, .int .u64 d], .int .i64 (parseE (natsOf s))]) ∧ IsV c d (parseV (natsOf s)) ∧ Below w.heap.size w w' := by
  have H0 : Hid _ := ParseAt.start w
  have hne := neqW
  have hd1 : decide ((s.size : Int) < 1) = false := by simp; omega
  have hd2 : decide (32 < (s.size : Int)) = false := by simp; omega
  go_enter Try.func21, Try.ntmps21
  go_wp2
  go_loopw [5] (RParseRel s w) (fun t _ => s.size - (intOf t).toNat)
  case atStart => exact ⟨0, by omega, rfl, by rw [List.take_zero, show hexVal [] = 0 from rfl, Nat.zero_mul]; exact H0.out, rfl⟩
  case round =>
    clear H0
    obtain ⟨k, hk, rfl, hP, hall⟩ := hrel
    by_cases hlt : k < s.size
    · have hdk : decide ((k : Int) < (s.size : Int)) = true := by simp; omega
      have HNx0 : Hid (hexVal ((natsOf s).take (k + 1)) * 16 ^ (s.size - (k + 1)) = hexVal ((natsOf s).take k) * 16 ^ (s.size - k) + digitV s[k].toNat * 2 ^ (4 * (s.size - 1 - k))) := rp_next hlt
      have HMq0 : Hid (∃ q, hexVal ((natsOf s).take k) * 16 ^ (s.size - k) = q * 2 ^ (4 * (s.size - 1 - k) + 4)) := rp_mult hlt
      have HP0 : Hid (ParseAt w wr (hexVal ((natsOf s).take k) * 16 ^ (s.size - k))) := hP
      have HA : Hid (((natsOf s).take k).all isHex = true) := hall
      have hT : 4 * ((s.size : Int) - 1 - (k : Int)) = ((4 * (s.size - 1 - k) : Nat) : Int) := by omega
      have hTl : 4 * (s.size - 1 - k) + 4 ≤ 128 := by omega
      have hb : s[k].toNat < 256 := s[k].toNat_lt
      clear hall
      by_cases hx1 : 48 ≤ s[k].toNat ∧ s[k].toNat ≤ 57
      · obtain ⟨c1, c2⟩ := hx1
        have HAn : Hid (((natsOf s).take (k + 1)).all isHex = true) := all_next hlt HA.out (by unfold isHex; rw [decide_eq_true (show 48 ≤ s[k].toNat ∧ s[k].toNat ≤ 57 from ⟨c1, c2⟩)]; rfl)
        have d1 : decide (48 ≤ (s[k].toNat : Int)) = true := by simp; omega
        have d2 : decide ((s[k].toNat : Int) ≤ 57) = true := by simp; omega
        have hE : (s[k].toNat : Int) - 48 = ((digitV s[k].toNat : Nat) : Int) := by unfold digitV; rw [if_pos ⟨c1, c2⟩]; omega
        have HV16 : Hid (digitV s[k].toNat < 2 ^ 4) := digitV_lt _
        have hV16 : digitV s[k].toNat < 16 := digitV_lt _
        clear hP HA
        generalize hexVal ((natsOf s).take k) * 16 ^ (s.size - k) = M at *
        generalize 4 * (s.size - 1 - k) = T at *
        generalize digitV s[k].toNat = V at *
        have HP : Hid (ParseAt w wr M) := HP0
        have HMq : Hid (∃ q, M = q * 2 ^ (T + 4)) := HMq0
        have HNx : Hid (hexVal ((natsOf s).take (k + 1)) * 16 ^ (s.size - (k + 1)) = M + V * 2 ^ T) := HNx0
        clear HP0 HMq0 HNx0
        go_wp2
        go_loopw [8] (InRel w M V T) (fun t _ => 4 - (intOf t).toNat)
        case atStart => exact ⟨0, by omega, rfl, by rw [Nat.pow_zero, Nat.mod_one, Nat.zero_mul, Nat.add_zero]; exact HP.out⟩
        case round =>
          obtain ⟨j, hj, rfl, hQ⟩ := hrel
          obtain ⟨c2, d2, hcd2, Y0, Y1⟩ := hQ.word
          have HQ : Hid _ := hQ
          clear hQ
          by_cases hl4 : j < 4
          · have hbv := bit_tmod V j
            have HZ : Hid (bitN (M + V % 2 ^ j * 2 ^ T) (T + j) = 0) := in_zero HMq.out hl4
            have e4 : ((T : Int) + (j : Int)).toNat = T + j := by omega
            by_cases hv : bitN V j = 1
            · have hv' : (((V : Int) / 2 ^ j).tmod 2 == 1) = true := by rw [hbv]; unfold bitN at hv; rw [hv]; rfl
              have HM2 : Hid (M + V % 2 ^ (j + 1) * 2 ^ T = M + V % 2 ^ j * 2 ^ T + 2 ^ (T + j)) := by unfold Hid; rw [mod_succ, hv, Nat.one_mul, Nat.add_mul, Nat.pow_add, Nat.mul_comm (2 ^ T), Nat.add_assoc]
              clear hv hbv
              obtain ⟨y0, y0'⟩ := Y0
              obtain ⟨y1, y1'⟩ := Y1
              go_wp2_with (first | (go_at_call 35; refine (set_int _ _ _ _ _ hcd2 (by omega) (by omega) (by rw [e4]; exact HZ.out)).mono ?_; rintro e w2 ⟨c3, d3, rfl, hcd3, hb2⟩; obtain ⟨z0, z0'⟩ := Lies.later hb2 ⟨y0, y0'⟩; obtain ⟨z1, z1'⟩ := Lies.later hb2 ⟨y1, y1'⟩))
              rw [e4, ← HM2.out] at hcd3
              exact ⟨⟨j + 1, by omega, by go_num, HQ.out.next (Below.refl _ _) hb2 ⟨z0, z0'⟩ ⟨z1, z1'⟩ hcd3⟩, by simp [intOf]; omega⟩
            · have hv' : (((V : Int) / 2 ^ j).tmod 2 == 1) = false := by rw [hbv]; unfold bitN at hv; generalize V / 2 ^ j % 2 = y at *; simp; omega
              have HM2 : Hid (M + V % 2 ^ (j + 1) * 2 ^ T = M + V % 2 ^ j * 2 ^ T) := by
                unfold Hid
                have : bitN V j = 0 := by have := bitN_lt V j; omega
                rw [mod_succ, this, Nat.zero_mul, Nat.add_zero]
              clear hv hbv
              go_wp2
              exact ⟨⟨j + 1, by omega, by go_num, by rw [HM2.out]; exact HQ.out⟩, by simp [intOf]; omega⟩
          · obtain rfl : j = 4 := by omega
            go_wp2
            refine ⟨⟨k + 1, by omega, by go_num, ?_, HAn.out⟩, by simp [intOf]; omega⟩
            rw [HNx.out]
            have := HQ.out
            rw [Nat.mod_eq_of_lt HV16.out] at this
            exact this
      · by_cases hx2 : 97 ≤ s[k].toNat ∧ s[k].toNat ≤ 102
        · obtain ⟨c3, c4⟩ := hx2
          have HAn : Hid (((natsOf s).take (k + 1)).all isHex = true) := all_next hlt HA.out (by unfold isHex; rw [decide_eq_true (show 97 ≤ s[k].toNat ∧ s[k].toNat ≤ 102 from ⟨c3, c4⟩), Bool.or_true])
          have d1 : decide (48 ≤ (s[k].toNat : Int)) = true := by simp; omega
          have d2 : decide ((s[k].toNat : Int) ≤ 57) = false := by simp; omega
          have d3 : decide (97 ≤ (s[k].toNat : Int)) = true := by simp; omega
          have d4 : decide ((s[k].toNat : Int) ≤ 102) = true := by simp; omega
          have hE : (s[k].toNat : Int) - 97 + 10 = ((digitV s[k].toNat : Nat) : Int) := by unfold digitV; rw [if_neg hx1, if_pos ⟨c3, c4⟩]; omega
          have HV16 : Hid (digitV s[k].toNat < 2 ^ 4) := digitV_lt _
          have hV16 : digitV s[k].toNat < 16 := digitV_lt _
          clear hP HA hx1
          generalize hexVal ((natsOf s).take k) * 16 ^ (s.size - k) = M at *
          generalize 4 * (s.size - 1 - k) = T at *
          generalize digitV s[k].toNat = V at *
          have HP : Hid (ParseAt w wr M) := HP0
          have HMq : Hid (∃ q, M = q * 2 ^ (T + 4)) := HMq0
          have HNx : Hid (hexVal ((natsOf s).take (k + 1)) * 16 ^ (s.size - (k + 1)) = M + V * 2 ^ T) := HNx0
          clear HP0 HMq0 HNx0
          go_wp2
          go_loopw [8] (InRel w M V T) (fun t _ => 4 - (intOf t).toNat)
          case atStart => exact ⟨0, by omega, rfl, by rw [Nat.pow_zero, Nat.mod_one, Nat.zero_mul, Nat.add_zero]; exact HP.out⟩
          case round =>
            obtain ⟨j, hj, rfl, hQ⟩ := hrel
            obtain ⟨c2, d2, hcd2, Y0, Y1⟩ := hQ.word
            have HQ : Hid _ := hQ
            clear hQ
            by_cases hl4 : j < 4
            · have hbv := bit_tmod V j
              have HZ : Hid (bitN (M + V % 2 ^ j * 2 ^ T) (T + j) = 0) := in_zero HMq.out hl4
              have e4 : ((T : Int) + (j : Int)).toNat = T + j := by omega
              by_cases hv : bitN V j = 1
              · have hv' : (((V : Int) / 2 ^ j).tmod 2 == 1) = true := by rw [hbv]; unfold bitN at hv; rw [hv]; rfl
                have HM2 : Hid (M + V % 2 ^ (j + 1) * 2 ^ T = M + V % 2 ^ j * 2 ^ T + 2 ^ (T + j)) := by unfold Hid; rw [mod_succ, hv, Nat.one_mul, Nat.add_mul, Nat.pow_add, Nat.mul_comm (2 ^ T), Nat.add_assoc]
                clear hv hbv
                obtain ⟨y0, y0'⟩ := Y0
                obtain ⟨y1, y1'⟩ := Y1
                go_wp2_with (first | (go_at_call 35; refine (set_int _ _ _ _ _ hcd2 (by omega) (by omega) (by rw [e4]; exact HZ.out)).mono ?_; rintro e w2 ⟨c3, d3, rfl, hcd3, hb2⟩; obtain ⟨z0, z0'⟩ := Lies.later hb2 ⟨y0, y0'⟩; obtain ⟨z1, z1'⟩ := Lies.later hb2 ⟨y1, y1'⟩))
                rw [e4, ← HM2.out] at hcd3
                exact ⟨⟨j + 1, by omega, by go_num, HQ.out.next (Below.refl _ _) hb2 ⟨z0, z0'⟩ ⟨z1, z1'⟩ hcd3⟩, by simp [intOf]; omega⟩
              · have hv' : (((V : Int) / 2 ^ j).tmod 2 == 1) = false := by rw [hbv]; unfold bitN at hv; generalize V / 2 ^ j % 2 = y at *; simp; omega
                have HM2 : Hid (M + V % 2 ^ (j + 1) * 2 ^ T = M + V % 2 ^ j * 2 ^ T) := by
                  unfold Hid
                  have : bitN V j = 0 := by have := bitN_lt V j; omega
                  rw [mod_succ, this, Nat.zero_mul, Nat.add_zero]
                clear hv hbv
                go_wp2
                exact ⟨⟨j + 1, by omega, by go_num, by rw [HM2.out]; exact HQ.out⟩, by simp [intOf]; omega⟩
            · obtain rfl : j = 4 := by omega
              go_wp2
              refine ⟨⟨k + 1, by omega, by go_num, ?_, HAn.out⟩, by simp [intOf]; omega⟩
              rw [HNx.out]
              have := HQ.out
              rw [Nat.mod_eq_of_lt HV16.out] at this
              exact this
        · have hbad : parseOk (natsOf s) = false := parse_bad hlt (by unfold isHex; rw [decide_eq_false hx1, decide_eq_false hx2]; rfl)
          have HE : Hid (parseE (natsOf s) = 22) := by unfold Hid parseE; rw [hbad]; rfl
          have HV : Hid (parseV (natsOf s) = 0) := by unfold Hid parseV; rw [hbad]; rfl
          obtain ⟨r0, r0'⟩ := hP.res0
          obtain ⟨r1, r1'⟩ := hP.res1
          have hB := hP.below
          clear hbad hP HA HNx0 HMq0 HP0 hT
          by_cases c1 : 48 ≤ s[k].toNat
          · have d1 : decide (48 ≤ (s[k].toNat : Int)) = true := by simp; omega
            have d2 : decide ((s[k].toNat : Int) ≤ 57) = false := by simp; omega
            by_cases c3 : 97 ≤ s[k].toNat
            · have d3 : decide (97 ≤ (s[k].toNat : Int)) = true := by simp; omega
              have d4 : decide ((s[k].toNat : Int) ≤ 102) = false := by simp; omega
              clear hx1 hx2 c1 c3
              go_wp2
              rw [HE.out, HV.out]
              exact bodyPost_ret (v := .tuple #[.agg #[.int .u64 0, .int .u64 0], .int .i64 22]) (by simp [results, Try.results21, go_sem, r0, r1]) rfl ⟨0, 0, rfl, IsV.zero, (hB.setCell (Nat.le_refl _) _).setCell (Nat.le_refl _) _⟩
            · have d3 : decide (97 ≤ (s[k].toNat : Int)) = false := by simp; omega
              clear hx1 hx2 c1 c3
              go_wp2
              rw [HE.out, HV.out]
              exact bodyPost_ret (v := .tuple #[.agg #[.int .u64 0, .int .u64 0], .int .i64 22]) (by simp [results, Try.results21, go_sem, r0, r1]) rfl ⟨0, 0, rfl, IsV.zero, (hB.setCell (Nat.le_refl _) _).setCell (Nat.le_refl _) _⟩
          · have d1 : decide (48 ≤ (s[k].toNat : Int)) = false := by simp; omega
            have d3 : decide (97 ≤ (s[k].toNat : Int)) = false := by simp; omega
            clear hx1 hx2 c1
            go_wp2
            rw [HE.out, HV.out]
            exact bodyPost_ret (v := .tuple #[.agg #[.int .u64 0, .int .u64 0], .int .i64 22]) (by simp [results, Try.results21, go_sem, r0, r1]) rfl ⟨0, 0, rfl, IsV.zero, (hB.setCell (Nat.le_refl _) _).setCell (Nat.le_refl _) _⟩
    · obtain rfl : k = s.size := by omega
      rw [Nat.sub_self, Nat.pow_zero, Nat.mul_one, List.take_of_length_le (by rw [natsOf_length]; exact Nat.le_refl _)] at hP
      obtain ⟨c, d, hcd, X0, X1⟩ := hP.word
      have HP : Hid _ := hP
      obtain ⟨x0, x0'⟩ := X0
      obtain ⟨x1, x1'⟩ := X1
      clear hall hP
      cases hp : parseOk (natsOf s) with
      | true =>
        have HE : Hid (parseE (natsOf s) = 0) := by unfold Hid parseE; rw [hp]; rfl
        have HV : Hid (parseV (natsOf s) = hexVal (natsOf s)) := by unfold Hid parseV; rw [hp]; rfl
        have hTx : strB (textL (hexVal (natsOf s))) = s := parse_text hp
        clear hp
        go_wp2_with (first | (go_at_call 22; refine (rText_any _ _ _ _ hcd).mono ?_; rintro e w2 ⟨rfl, hb⟩; have H2 := HP.out.later hb; obtain ⟨r0, r0'⟩ := H2.res0; obtain ⟨r1, r1'⟩ := H2.res1; have hB := H2.below; obtain ⟨y0, y0'⟩ := Lies.later hb ⟨x0, x0'⟩; obtain ⟨y1, y1'⟩ := Lies.later hb ⟨x1, x1'⟩; clear H2))
        rw [HE.out, HV.out]
        exact bodyPost_ret (v := .tuple #[.agg #[.int .u64 c, .int .u64 d], .int .i64 0]) (by simp [results, Try.results21, go_sem, r0, r1]) rfl ⟨c, d, rfl, hcd, (hB.setCell (Nat.le_refl _) _).setCell (Nat.le_refl _) _⟩
      | false =>
        have HE : Hid (parseE (natsOf s) = 22) := by unfold Hid parseE; rw [hp]; rfl
        have HV : Hid (parseV (natsOf s) = 0) := by unfold Hid parseV; rw [hp]; rfl
        have hTx : ((strB (textL (hexVal (natsOf s)))).toList == s.toList) = false := by
          rw [beq_eq_false_iff_ne]
          intro e
          rw [ByteArray.toList_eq, ByteArray.toList_eq] at e
          exact text_not h2 hp (by apply ByteArray.ext; exact Array.toList_inj.1 e)
        clear hp
        go_wp2_with (first | (go_at_call 22; refine (rText_any _ _ _ _ hcd).mono ?_; rintro e w2 ⟨rfl, hb⟩; have H2 := HP.out.later hb; obtain ⟨r0, r0'⟩ := H2.res0; obtain ⟨r1, r1'⟩ := H2.res1; have hB := H2.below; clear H2))
        rw [HE.out, HV.out]
        exact bodyPost_ret (v := .tuple #[.agg #[.int .u64 0, .int .u64 0], .int .i64 22]) (by simp [results, Try.results21, go_sem, r0, r1]) rfl ⟨0, 0, rfl, IsV.zero, (hB.setCell (Nat.le_refl _) _).setCell (Nat.le_refl _) _⟩

theorem rParse_any (s : ByteArray) (w : World) :
    Calls Try.prog 21 #[.string s] w fun e w' => ∃ c d : Int, e = .returned (.tuple #[.agg #[.int .u64 c, .int .u64 d], .int .i64 (parseE (natsOf s))]) ∧ IsV c d (parseV (natsOf s)) ∧ Below w.heap.size w w' := by
  by_cases h1 : s.size < 1 ∨ 32 < s.size
  · have hk : parseOk (natsOf s) = false := by
      unfold parseOk
      rw [natsOf_length, decide_eq_false (by omega)]
      rfl
    unfold parseE parseV
    rw [hk]
    exact (rParse_bounds s w h1).mono fun e w' ⟨he, hb⟩ => ⟨0, 0, he, IsV.zero, hb⟩
  · exact rParse_loop s w (by omega) (by omega)
end Go.Proofs.Ytcafmhlnfkgegaa
