import Derived.Test.YtcknjglpgfkaiaaC5
import Derived.Deep.DeepCutAuto
namespace Go.Proofs.Ytcknjglpgfkaiaa
open Go.RowKit

theorem natsOf_length (s : ByteArray) : (natsOf s).length = s.size := by simp [natsOf]
theorem natsOf_get (s : ByteArray) (k : Nat) (h : k < s.size) : (natsOf s)[k]? = some s[k].toNat := by
  unfold natsOf
  rw [List.getElem?_map, List.getElem?_eq_getElem (by simpa using h)]
  rfl
theorem natsOf_take (s : ByteArray) (k : Nat) (h : k < s.size) : (natsOf s).take (k + 1) = (natsOf s).take k ++ [s[k].toNat] := by
  have hl : k < (natsOf s).length := by rw [natsOf_length]; exact h
  rw [List.take_succ_eq_append_getElem hl]
  have := natsOf_get s k h
  rw [List.getElem?_eq_getElem hl] at this
  rw [Option.some.inj this]
/-- Is the byte c among the first k of Y? -/
def amongB (Y : ByteArray) (c k : Nat) : Bool := ((natsOf Y).take k).any (fun d => decide (c = d))
theorem among_next (Y : ByteArray) (c k : Nat) (h : k < Y.size) : amongB Y c (k + 1) = (amongB Y c k || decide (c = Y[k].toNat)) := by
  unfold amongB
  rw [natsOf_take Y k h, List.any_append]
  simp
/-- Are the first i bytes of X all among those of Y? -/
def allB (X Y : ByteArray) (i : Nat) : Bool := ((natsOf X).take i).all (fun c => amongB Y c Y.size)
theorem all_next (X Y : ByteArray) (i : Nat) (h : i < X.size) : allB X Y (i + 1) = (allB X Y i && amongB Y X[i].toNat Y.size) := by
  unfold allB
  rw [natsOf_take X i h, List.all_append]
  simp
theorem part_all {n m : Nat} (hn : n < 32) (hm : m < 32) : partB (n : Int) (m : Int) = (decide (n ≠ 0) && decide (m ≠ 0) && allB (nameB (n : Int)) (nameB (m : Int)) (nameB (n : Int)).size) := by
  rw [part_letters n hn m hm]
  unfold allB amongB
  rw [← natsOf_length, ← natsOf_length, List.take_length, List.take_length, name_nats hn, name_nats hm]
theorem nameB_five : ∀ n, n < 32 → (nameB ((n : Nat) : Int)).size ≤ 5 := by decide +kernel
def InRel (w : World) (X Y : ByteArray) (z : Bool) (o t : Value) (w' : World) : Prop :=
  ∃ i : Nat, i ≤ X.size ∧ t = .int .i64 (i : Int) ∧ o = .bool (z && allB X Y i) ∧ Below w.heap.size w w'
def FoundRel (w : World) (Y : ByteArray) (c : Nat) (f t : Value) (w' : World) : Prop :=
  ∃ k : Nat, k ≤ Y.size ∧ t = .int .i64 (k : Int) ∧ f = .bool (amongB Y c k) ∧ Below w.heap.size w w'
theorem reads_name {n : Nat} {v c : Int} (hn : n < 32) (h : Reads (nameB (n : Int)) v c) : v = (n : Int) ∧ c = 0 := h.inj (Reads.name hn)
theorem names_beq {n m : Nat} (hn : n < 32) (hm : m < 32) : ((nameB (n : Int)).toList == (nameB (m : Int)).toList) = ((n : Int) == (m : Int)) := by
  rw [str_beq, beq_nat, decide_eq_decide]
  exact ⟨fun e => nameB_inj hn hm e, fun e => by rw [e]⟩

set_option maxRecDepth 100000 in
set_option maxHeartbeats 2000000 in
theorem order_walk (a b c : Int) (w : World) :
    Calls Try.prog 3 #[.int .i64 a, .int .i64 b, .int .i64 c] w fun e w' => e = .returned (.bool true) ∧ Below w.heap.size w w' := by
  obtain ⟨n, hn, hn32⟩ : ∃ n : Nat, a % 32 = (n : Int) ∧ n < 32 := ⟨(a % 32).toNat, by omega, by omega⟩
  obtain ⟨m, hm, hm32⟩ : ∃ n : Nat, b % 32 = (n : Int) ∧ n < 32 := ⟨(b % 32).toNat, by omega, by omega⟩
  obtain ⟨l, hl, hl32⟩ : ∃ n : Nat, c % 32 = (n : Int) ∧ n < 32 := ⟨(c % 32).toNat, by omega, by omega⟩
  have ha : bits .and .i64 a 31 = (n : Int) := by rw [i64_and31, hn]
  have hb : bits .and .i64 b 31 = (m : Int) := by rw [i64_and31, hm]
  have hc : bits .and .i64 c 31 = (l : Int) := by rw [i64_and31, hl]
  have hnm := names_beq hn32 hm32
  clear hn hm hl
  go_enter Try.func3, Try.ntmps3
  go_upto_region 7 with (first | (go_at_call 6; refine (head_any _).mono ?_; rintro e w1 ⟨rfl, hB⟩) | (go_at_call 8; refine (names_any _ _).mono ?_; rintro e w2 ⟨rfl, hb2⟩; replace hB := below_call hB hb2; clear hb2) | (go_at_call 7; refine (parse_any _ _).mono ?_; rintro e w3 ⟨v, cc, rfl, hr, hb2⟩; replace hB := below_call hB hb2; obtain ⟨rfl, rfl⟩ := reads_name hn32 hr; clear hb2 hr))
  go_cut [75] (fun s w' => s = .bool false ∧ Below w.heap.size w w')
  case first =>
    have H1 : Hid (partB (n : Int) (m : Int) = true → partB (m : Int) (n : Int) = true → n = m) := part_anti hn32 hm32
    have H2 : Hid (partB (n : Int) (m : Int) = true → partB (m : Int) (l : Int) = true → partB (n : Int) (l : Int) = true) := part_trans hn32 hm32 hl32
    clear ha hb hc hnm
    cases p1 : partB (n : Int) (m : Int) with
    | false =>
      go_wp2_with (first | (go_at_call 9; refine (part_any _ _ _).mono ?_; rintro e w4 ⟨rfl, rfl⟩) | (go_at_call 10; refine (valid_any _ _).mono ?_; rintro e w4 ⟨rfl, rfl⟩))
      go_meet
      case rel => exact ⟨rfl, hB⟩
    | true =>
      cases p2 : partB (m : Int) (n : Int) with
      | true =>
        have e1 := H1.out p1 p2
        subst e1
        clear p2
        cases p3 : partB (n : Int) (l : Int) with
        | true =>
          go_wp2_with (first | (go_at_call 9; refine (part_any _ _ _).mono ?_; rintro e w4 ⟨rfl, rfl⟩) | (go_at_call 10; refine (valid_any _ _).mono ?_; rintro e w4 ⟨rfl, rfl⟩))
          go_meet
          case rel => exact ⟨rfl, hB⟩
        | false =>
          go_wp2_with (first | (go_at_call 9; refine (part_any _ _ _).mono ?_; rintro e w4 ⟨rfl, rfl⟩) | (go_at_call 10; refine (valid_any _ _).mono ?_; rintro e w4 ⟨rfl, rfl⟩))
          go_meet
          case rel => exact ⟨rfl, hB⟩
      | false =>
        cases p3 : partB (m : Int) (l : Int) with
        | true =>
          have p4 := H2.out p1 p3
          go_wp2_with (first | (go_at_call 9; refine (part_any _ _ _).mono ?_; rintro e w4 ⟨rfl, rfl⟩) | (go_at_call 10; refine (valid_any _ _).mono ?_; rintro e w4 ⟨rfl, rfl⟩))
          go_meet
          case rel => exact ⟨rfl, hB⟩
        | false =>
          go_wp2_with (first | (go_at_call 9; refine (part_any _ _ _).mono ?_; rintro e w4 ⟨rfl, rfl⟩) | (go_at_call 10; refine (valid_any _ _).mono ?_; rintro e w4 ⟨rfl, rfl⟩))
          go_meet
          case rel => exact ⟨rfl, hB⟩
  case rest =>
    clear hB
    obtain ⟨rfl, hB⟩ := hcut
    go_upto_region 9 with fail
    go_cut [111] (fun s w' => s = .bool false ∧ Below w.heap.size w w')
    case first =>
      clear ha hb hc hnm
      by_cases h0 : n = 0
      · subst h0
        have p1 := (part_zero (m : Int)).1
        have p2 := (part_zero (m : Int)).2
        have p3 : validB 0 = false := by decide
        simp only [Int.cast_ofNat_Int]
        go_wp2_with (first | (go_at_call 9; refine (part_any _ _ _).mono ?_; rintro e w4 ⟨rfl, rfl⟩) | (go_at_call 10; refine (valid_any _ _).mono ?_; rintro e w4 ⟨rfl, rfl⟩))
        go_meet
        case rel => exact ⟨rfl, hB⟩
      · have hz : ((n : Int) == 0) = false := by simp; omega
        have p1 := (part_self n hn32 h0).1
        have p2 := (part_self n hn32 h0).2
        have p3 : validB (n : Int) = true := valid_of (by omega) hn32
        go_wp2_with (first | (go_at_call 9; refine (part_any _ _ _).mono ?_; rintro e w4 ⟨rfl, rfl⟩) | (go_at_call 10; refine (valid_any _ _).mono ?_; rintro e w4 ⟨rfl, rfl⟩))
        go_meet
        case rel => exact ⟨rfl, hB⟩
    case rest =>
      clear hB
      obtain ⟨rfl, hB⟩ := hcut
      clear ha hb hc hnm
      obtain ⟨z, hz⟩ : ∃ z : Bool, z = (decide (n ≠ 0) && decide (m ≠ 0)) := ⟨_, rfl⟩
      have HP : Hid (partB (n : Int) (m : Int) = (z && allB (nameB (n : Int)) (nameB (m : Int)) (nameB (n : Int)).size)) := by unfold Hid; rw [hz]; exact part_all hn32 hm32
      have HZ : Hid (z = (decide (n ≠ 0) && decide (m ≠ 0))) := hz
      clear hz
      go_upto_region 12 with (first | (go_at_call 8; refine (names_any _ _).mono ?_; rintro e w5 ⟨rfl, hb2⟩; replace hB := below_call hB hb2; clear hb2))
      go_cut [11] (fun s w' => s = .bool z ∧ Below w.heap.size w w')
      case first =>
        clear HP
        by_cases h0 : n = 0
        · subst h0
          simp only [Int.cast_ofNat_Int]
          go_wp2
          go_meet
          case rel => exact ⟨by rw [HZ.out]; rfl, hB⟩
        · have hz0 : ((n : Int) == 0) = false := by simp; omega
          by_cases h1 : m = 0
          · subst h1
            simp only [Int.cast_ofNat_Int]
            go_wp2
            go_meet
            case rel => exact ⟨by rw [HZ.out]; simp, hB⟩
          · have hz1 : ((m : Int) == 0) = false := by simp; omega
            go_wp2
            go_meet
            case rel => exact ⟨by rw [HZ.out]; simp [h0, h1], hB⟩
      case rest =>
        clear hB HZ
        obtain ⟨rfl, hB⟩ := hcut
        have hsX := nameB_five n hn32
        have hsY := nameB_five m hm32
        generalize nameB (n : Int) = X at HP hsX ⊢
        generalize nameB (m : Int) = Y at HP hsY ⊢
        go_wp2
        go_loopw [11, 12] (InRel w X Y z) (fun _ t _ => X.size - (intOf t).toNat)
        case atStart => exact ⟨0, by omega, rfl, by simp [allB], hB⟩
        case round =>
          clear hB
          obtain ⟨i, hi, rfl, rfl, hB⟩ := hrel
          by_cases hlt : i < X.size
          · have hd : decide ((i : Int) < (X.size : Int)) = true := by simp; omega
            obtain ⟨g, hg⟩ : ∃ g : Bool, g = (z && allB X Y i) := ⟨_, rfl⟩
            rw [← hg]
            have HG : Hid ((z && allB X Y (i + 1)) = (g && amongB Y X[i].toNat Y.size)) := by unfold Hid; rw [all_next X Y i hlt, hg, Bool.and_assoc]
            clear hg HP
            go_wp2
            go_loopw [13, 14] (FoundRel w Y X[i].toNat) (fun _ t _ => Y.size - (intOf t).toNat)
            case atStart => exact ⟨0, by omega, rfl, by simp [amongB], hB⟩
            case round =>
              clear hB
              obtain ⟨k, hk, rfl, rfl, hB⟩ := hrel
              by_cases hkt : k < Y.size
              · have hd2 : decide ((k : Int) < (Y.size : Int)) = true := by simp; omega
                have hi1 : (i : Int) < (X.size : Int) := by omega
                have hk1 : (k : Int) < (Y.size : Int) := by omega
                have HN : Hid (amongB Y X[i].toNat (k + 1) = (amongB Y X[i].toNat k || decide (X[i].toNat = Y[k].toNat))) := among_next Y _ k hkt
                cases f : amongB Y X[i].toNat k with
                | true =>
                  go_wp2
                  go_quiet (fail)
                  go_wp2
                  go_roundw
                  case rel => exact ⟨k + 1, by omega, by go_num, by rw [HN.out, f]; rfl, below_drewN hB _⟩
                  case measure => simp [intOf]; omega
                | false =>
                  go_wp2
                  go_quiet (fail)
                  go_wp2
                  go_roundw
                  case rel => exact ⟨k + 1, by omega, by go_num, by rw [HN.out, f, Bool.false_or, ← beq_nat], below_drewN hB _⟩
                  case measure => simp [intOf]; omega
              · obtain rfl : k = Y.size := by omega
                cases g with
                | true =>
                  go_wp2
                  go_roundw
                  case rel => exact ⟨i + 1, by omega, by go_num, by rw [HG.out]; simp, hB⟩
                  case measure => simp [intOf]; omega
                | false =>
                  go_wp2
                  go_roundw
                  case rel => exact ⟨i + 1, by omega, by go_num, by rw [HG.out]; simp, hB⟩
                  case measure => simp [intOf]; omega
          · obtain rfl : i = X.size := by omega
            have hp := HP.out
            generalize (z && allB X Y X.size) = g at hp ⊢
            clear HP
            go_wp2_with (first | (go_at_call 9; refine (part_any _ _ _).mono ?_; rintro e w4 ⟨rfl, rfl⟩) | (go_at_call 11; refine (has_any _ _ _).mono ?_; rintro e w4 ⟨rfl, rfl⟩))
            go_ret
            exact ⟨rfl, hB⟩
end Go.Proofs.Ytcknjglpgfkaiaa
