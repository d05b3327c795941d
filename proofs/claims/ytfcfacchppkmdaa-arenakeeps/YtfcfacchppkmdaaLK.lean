import Derived.Test.YtfcfacchppkmdaaF4
namespace Go.Proofs.Ytfcfacchppkmdaa
open Go.RowKit
set_option linter.unusedVariables false
set_option linter.unusedSimpArgs false

set_option maxRecDepth 100000 in
set_option maxHeartbeats 4000000 in
theorem keeps_walk (nn page : Int) (x : Nat) (w : World) (hx : x < 256) :
    Calls Try.prog 4 #[.int .i64 nn, .int .i64 page, .int .u8 (x : Int)] w fun e w' => e = .returned (.bool true) ∧ Below w.heap.size w w' := by
  obtain ⟨r, hr, hrN⟩ : ∃ r : Nat, r < 20 ∧ restN nn 20 = r := ⟨_, restN_lt nn 20 (by omega), rfl⟩
  go_enter Try.func4, Try.ntmps4
  go_upto_region 2 with (first | (go_at_call 6; refine (rest_any nn 20 (by omega) (by omega) _).mono ?_; rintro e w0 ⟨rfl, rfl⟩; rw [hrN]))
  obtain ⟨k, hk⟩ : ∃ k : Nat, (1 : Int) + (r : Int) = (k : Int) := ⟨1 + r, by omega⟩
  have hk0 : 0 < k := by omega
  have hk20 : k ≤ 20 := by omega
  rw [hk]
  clear hk hrN hr
  obtain ⟨n, hn⟩ : ∃ n : Nat, (2 : Int) * (k : Int) = (n : Int) := ⟨2 * k, by omega⟩
  have HNK : Hid (n = k + k) := hid (by omega)
  have hn1 : n ≤ k + k := by omega
  have hn2 : k + k ≤ n := by omega
  go_upto_region 3 with (first | (go_at_call 7; refine (new_ok n _ (by omega)).mono ?_; rintro e w1 ⟨g, pb, rfl, A1, hg, hpb, hb1⟩))
  replace A1 := hid A1
  replace hb1 := hid hb1
  go_upto_region 5 with (first | (go_at_call 8; refine (num_any _ _).mono ?_; rintro e w2 ⟨rfl, rfl⟩) | (go_at_call 9; refine (alive_any _).mono ?_; rintro e w3 ⟨rfl, b3⟩; replace A1 := hid (A1.out.later b3); replace hb1 := hid (below_call hb1.out b3); clear b3))
  have HF1 : Hid (k ≤ (lst n (fun _ => false) false).length) := hid (by rw [lst_all]; simp; omega)
  go_upto_region 6 with (first | (go_at_call 10; refine (take_at g pb n (fun _ => false) (fun _ _ => 0) k _ A1.out HF1.out hk0).mono ?_; rintro e w5 ⟨b0, rfl, N5, A5, b5⟩))
  rw [lst_all, take_range n k (by omega)] at N5 A5
  rw [tk_range] at A5
  have hb5 := hid (But.below hb1.out b5 (fun k hk => by rw [hk]; exact hg))
  have HG5 : Hid (b0 ≠ g ∧ b0 ≠ pb ∧ w0.heap.size ≤ b0) := hid (by
    have h1 := N5.ge b0 ⟨_, rfl, rfl⟩
    have h2 := A1.out.glt
    have h3 := A1.out.lt
    have h4 := hb1.out.size
    omega)
  replace N5 := hid N5
  replace A5 := hid A5
  clear A1 hb1 b5 HF1
  have HF2 : Hid (k ≤ (lst n (fun i => decide (i < k)) false).length) := hid (by rw [HNK.out, lst_ge]; simp)
  go_upto_region 7 with (first | (go_at_call 10; refine (take_at g pb n (fun i => decide (i < k)) (fun _ _ => 0) k _ A5.out HF2.out hk0).mono ?_; rintro e w6 ⟨b1, rfl, N6, A6, b6⟩))
  have e1 : (lst n (fun i => decide (i < k)) false).take k = (List.range k).map (k + ·) := by
    rw [HNK.out, lst_ge, List.take_of_length_le (by simp)]
  rw [e1] at N6 A6
  rw [tk_ge] at A6
  have e2 : (fun i => decide (i < k + k)) = fun i => decide (i < n) := by rw [HNK.out]
  rw [e2] at A6
  have hb6 := hid (But.below hb5.out b6 (fun k hk => by rw [hk]; exact hg))
  have HG6 : Hid (b1 ≠ g ∧ b1 ≠ pb ∧ w0.heap.size ≤ b1 ∧ b0 ≠ b1) := hid (by
    have h1 := N6.ge b1 ⟨_, rfl, rfl⟩
    have h2 := A5.out.glt
    have h3 := A5.out.lt
    have h4 := hb5.out.size
    have h5 := N5.out.lt b0 ⟨_, rfl, rfl⟩
    omega)
  replace N5 := hid (N5.out.but b6 (fun j hj => by rw [blk_at hj]; exact HG5.out.1))
  replace N6 := hid N6
  replace A6 := hid A6
  clear A5 hb5 b6 HF2 e1 e2
  have ht : lst n (fun i => decide (i < n)) true = List.range n := lst_full n
  have HT := hid ht
  clear ht
  go_upto_region 8 with (first | (go_at_call 14; refine (taken_any g pb n _ _ _ A6.out).mono ?_; rintro e w7 ⟨ls, ms, cs, rfl, N7, b7⟩))
  rw [HT.out] at N7
  obtain rfl : n = ms := len_of N7 (by simp)
  obtain ⟨b2, rfl⟩ := N7.form (by omega)
  have HG7 : Hid (g < b2 ∧ pb < b2 ∧ b0 < b2 ∧ b1 < b2) := hid (by
    have h0 := N7.blk b2 ⟨_, rfl, rfl⟩
    have h1 := N5.out.lt b0 ⟨_, rfl, rfl⟩
    have h2 := N6.out.lt b1 ⟨_, rfl, rfl⟩
    have h3 := A6.out.glt
    have h4 := A6.out.lt
    omega)
  replace N7 := hid N7
  replace N5 := hid (N5.out.later b7)
  replace N6 := hid (N6.out.later b7)
  replace A6 := hid (A6.out.later b7)
  replace hb6 := hid (below_call hb6.out b7)
  clear b7
  go_upto_region 9 with (first | (go_at_call 14; refine (taken_any g pb n _ _ _ A6.out).mono ?_; rintro e w8 ⟨lt, mt, ct, rfl, N8, b8⟩))
  rw [HT.out] at N8
  obtain rfl : n = mt := len_of N8 (by simp)
  obtain ⟨b3, rfl⟩ := N8.form (by omega)
  have HG8 : Hid (b2 < b3 ∧ b3 < w8.heap.size) := hid (by
    have h0 := N8.blk b3 ⟨_, rfl, rfl⟩
    have h1 := N7.out.lt b2 ⟨_, rfl, rfl⟩
    have h2 := N8.lt b3 ⟨_, rfl, rfl⟩
    omega)
  replace N8 := hid N8
  replace N5 := hid (N5.out.later b8)
  replace N6 := hid (N6.out.later b8)
  replace N7 := hid (N7.out.later b8)
  replace A6 := hid (A6.out.later b8)
  replace hb6 := hid (below_call hb6.out b8)
  clear b8
  go_upto_region 11 with fail
  go_loopw [16, 17, 18, 19] (KRel w8 k) (fun _ _ _ v _ => k + k - (intOf v).toNat)
  case atStart => exact ⟨0, none, 0, none, 0, none, 0, 0, 0, rfl, rfl, rfl, rfl, by omega, .inl ⟨by omega, rfl, rfl⟩, ⟨Own.nil _ _ _, Own.nil _ _ _, Own.nil _ _ _, fun j h => (by obtain ⟨_, h, _⟩ := h; cases h), fun j h => (by obtain ⟨_, h, _⟩ := h; cases h), fun j h => (by obtain ⟨_, h, _⟩ := h; cases h)⟩, Below.refl _ _⟩
  case round =>
    obtain ⟨i, a1, c1, a2, c2, a3, c3, n1, n2, rfl, rfl, rfl, rfl, hi, hcase, hT, hB⟩ := hrel
    by_cases hlt : i < n
    · have hd : decide ((i : Int) < (n : Int)) = true := decide_eq_true (by omega)
      obtain ⟨a3', c3', wa, hrun3, hT3, hB3⟩ := hT.rot.rot.add (i : Int) hB.size (by omega)
      have HR3 := hid hrun3
      have hB3' : Below w8.heap.size w8 wa := hB.trans hB3
      by_cases hik : i < k
      · have hd2 : decide ((i : Int) < (k : Int)) = true := decide_eq_true (by omega)
        obtain ⟨rfl, rfl⟩ : i = n1 ∧ 0 = n2 := by omega
        obtain ⟨a1', c1', wb, hrun1, hT1, hB1⟩ := hT3.rot.add (i : Int) hB3'.size (by omega)
        have HR1 := hid hrun1
        have HT1 := hid hT1.rot.rot.rot
        have HB1 := hid (hB3'.trans hB1)
        clear hrun3 hrun1 hT hT3 hT1 hB hB3 hB3' hB1 hcase
        go_wp2_with (first
          | (at_builtin; have hq_ := MK; clear hq_; refine wpList_append_known rfl _ _ 22 rfl _ _ rfl rfl _ wb HR1.out ?_)
          | (at_builtin; refine wpList_append_known rfl _ _ 22 rfl _ _ rfl rfl _ wa HR3.out ?_; obtain ⟨MK, _⟩ : ∃ m : Nat, m = 0 := ⟨0, rfl⟩))
        exact ⟨⟨i + 1, a1', c1', a2, c2, a3', c3', i + 1, 0, rfl, rfl, rfl, rfl, by omega, .inl ⟨by omega, rfl, rfl⟩, by rw [range_next]; exact HT1.out, HB1.out⟩, by simp [intOf]; omega⟩
      · have hd2 : decide ((i : Int) < (k : Int)) = false := decide_eq_false (by omega)
        obtain ⟨rfl, hn2e⟩ : k = n1 ∧ n2 = i - k := by omega
        obtain ⟨a2', c2', wb, hrun2, hT2, hB2⟩ := hT3.rot.rot.add (i : Int) hB3'.size (by omega)
        have HR2 := hid hrun2
        have HT2 := hid hT2.rot.rot
        have HB2 := hid (hB3'.trans hB2)
        have HNE := hid hn2e
        clear hrun3 hrun2 hT hT3 hT2 hB hB3 hB3' hB2 hcase hn2e
        go_wp2_with (first
          | (at_builtin; have hq_ := MK; clear hq_; refine wpList_append_known rfl _ _ 22 rfl _ _ rfl rfl _ wb HR2.out ?_)
          | (at_builtin; refine wpList_append_known rfl _ _ 22 rfl _ _ rfl rfl _ wa HR3.out ?_; obtain ⟨MK, _⟩ : ∃ m : Nat, m = 0 := ⟨0, rfl⟩))
        exact ⟨⟨i + 1, a1, c1, a2', c2', a3', c3', k, n2 + 1, rfl, rfl, rfl, rfl, by omega, .inr ⟨by omega, rfl, by have := HNE.out; omega⟩, by
          have e : k + n2 = i := by have := HNE.out; omega
          rw [range_next, up_next, e]; exact HT2.out, HB2.out⟩, by simp [intOf]; omega⟩
    · obtain rfl : n = i := by omega
      have hd : decide ((n : Int) < (n : Int)) = false := by simp
      obtain ⟨rfl, rfl⟩ : k = n1 ∧ k = n2 := by omega
      rename World => wl
      have HTR := hid hT
      have HB := hid hB
      clear hT hB hcase hlt hi
      go_upto_region 17 with fail
      obtain ⟨W, hW⟩ : ∃ W, W = (wl.alloc (Obj.cells #[.slice (some ⟨b0, 0, none⟩) k k, .slice (some ⟨b1, 0, none⟩) k k, .slice (some ⟨b2, 0, none⟩) n cs, .slice (some ⟨b3, 0, none⟩) n ct] 22)).alloc (Obj.cells #[.slice a1 k c1, .slice a2 k c2, .slice a3 n c3, .slice a3 n c3] 22) := ⟨_, rfl⟩
      have hBW : Below wl.heap.size wl W := by rw [hW]; exact below2 _ _ _
      have hB8 : Below w8.heap.size w8 W := below_call HB.out hBW
      have hF : Four W (f4 b0 b1 b2 b3) (f4 k k n n) (f4 k k cs ct) (f4 (nats (List.range k)) (up k k) (nats (List.range n)) (nats (List.range n))) :=
        f4_mk ((N5.out.later hB8).mono (Nat.zero_le _)) ((N6.out.later hB8).mono (Nat.zero_le _)) ((N7.out.later hB8).mono (Nat.zero_le _)) ((N8.out.later hB8).mono (Nat.zero_le _)) (by omega) (by omega) (by
          have h1 := HG6.out
          have h2 := HG7.out
          have h3 := HG8.out
          omega)
      have hT := HTR.out.later hBW
      have hcl : ∀ q, q < 4 → W.cell? ⟨wl.heap.size, q, none⟩ = some (.slice (some ⟨f4 b0 b1 b2 b3 q, 0, none⟩) (f4 k k n n q) (f4 k k cs ct q)) := by
        rw [hW]
        exact four_cases (by simp [go_sem, f4]) (by simp [go_sem, f4]) (by simp [go_sem, f4]) (by simp [go_sem, f4])
      have hcw : ∀ q, q < 4 → W.cell? ⟨wl.heap.size + 1, q, none⟩ = some (.slice (f4 a1 a2 a3 a3 q) (f4 k k n n q) (f4 c1 c2 c3 c3 q)) := by
        rw [hW]
        exact four_cases (by simp [go_sem, f4]) (by simp [go_sem, f4]) (by simp [go_sem, f4]) (by simp [go_sem, f4])
      have hzl := HB.out.size
      have HAP := hid (apart_any wl.heap.size (wl.heap.size + 1) _ _ _ _ (f4 a1 a2 a3 a3) (f4 c1 c2 c3 c3) W hF hcl hcw (four_cases hT.o1.read hT.o2.read hT.o3.read hT.o3.read) (four_cases (by
        have h2 := HG7.out
        have h3 := HG8.out
        show wl.heap.size ≠ b0
        omega) (by
        have h2 := HG7.out
        have h3 := HG8.out
        show wl.heap.size ≠ b1
        omega) (by
        have h3 := HG8.out
        show wl.heap.size ≠ b2
        omega) (by
        have h3 := HG8.out
        show wl.heap.size ≠ b3
        omega)))
      have HS : Hid (∀ j, Bs (f4 b0 b1 b2 b3) j → j ≠ g ∧ j ≠ pb ∧ w0.heap.size ≤ j ∧ j < w8.heap.size) := hid (by
        rintro j ⟨q, hq, rfl⟩
        revert q
        have h1 := HG6.out
        have h2 := HG7.out
        have h3 := HG8.out
        have h5 := HG5.out
        have h6 := hb6.out.size
        exact four_cases (show b0 ≠ g ∧ b0 ≠ pb ∧ w0.heap.size ≤ b0 ∧ b0 < w8.heap.size by omega) (show b1 ≠ g ∧ b1 ≠ pb ∧ w0.heap.size ≤ b1 ∧ b1 < w8.heap.size by omega) (show b2 ≠ g ∧ b2 ≠ pb ∧ w0.heap.size ≤ b2 ∧ b2 < w8.heap.size by omega) (show b3 ≠ g ∧ b3 ≠ pb ∧ w0.heap.size ≤ b3 ∧ b3 < w8.heap.size by omega))
      have HAL := hid hT.o3
      have HAW := hid (A6.out.later hB8)
      have HBW := hid (below_call hb6.out hB8)
      rw [hW] at HAP HAL HAW HBW
      clear hW hBW hB8 hF hT hcl hcw hzl HTR HB N5 N6 N7 N8 A6 hb6 HG5 HG6 HG7 HG8 HNK
      go_upto_region 19 with (first
        | (go_at_call 16; refine HAP.out.mono ?_; rintro e w10 ⟨rfl, b10⟩; replace HAL := hid (HAL.out.but b10 (fun j h1 h2 => by have h3 := HAL.out.blk j h1; have h4 := (HS.out j h2).2.2.2; omega)); replace HAW := hid (HAW.out.but b10 (fun h => (HS.out g h).1 rfl) (fun h => (HS.out pb h).2.1 rfl)); replace HBW := hid (But.below HBW.out b10 (fun j hj => (HS.out j hj).2.2.1)); clear b10 HAP)
        | (go_at_call 14; refine (taken_any g pb n _ _ _ HAW.out).mono ?_; rintro e w11 ⟨lq, mq, cq, rfl, N11, b11⟩; rw [HT.out] at N11; obtain rfl := len_of N11 (List.length_range (n := n)); replace HAL := hid (HAL.out.later b11); replace HAW := hid (HAW.out.later b11); replace HBW := hid (below_call HBW.out b11); clear b11)
        | (go_at_call 17; refine (numbers_eq _ _ _ _ _ _ (nats (List.range n)) _ N11.read HAL.out.read (by omega)).mono ?_; rintro e w12 ⟨rfl, b12⟩; replace HAW := hid (HAW.out.later b12); replace HBW := hid (below_call HBW.out b12); clear b12 N11))
      obtain ⟨p, hp, hpN⟩ : ∃ p : Nat, p < n ∧ restN page n = p := ⟨_, restN_lt page n (by omega), rfl⟩
      have htp : decide (p < n) = true := decide_eq_true hp
      obtain ⟨x1, hx1, hx1w⟩ : ∃ x1 : Nat, x1 < 256 ∧ IntKind.u8.wrap ((x : Int) + 1) = (x1 : Int) := ⟨(x + 1) % 256, by omega, by rw [IntKind.wrap_u8]; omega⟩
      clear HAL HS HT
      go_upto_region 20 with (first | (go_at_call 6; refine (rest_any page n (by omega) (by omega) _).mono ?_; rintro e w13 ⟨rfl, rfl⟩; rw [hpN]))
      go_upto_region 21 with (first | (go_at_call 18; refine (lent_two x x1 _).mono ?_; rintro e w14 ⟨db, rfl, C14, hdb1, hdb2, b14⟩))
      have HDB : Hid (db ≠ g ∧ db ≠ pb ∧ w0.heap.size ≤ db) := hid (by
        have h1 := HAW.out.glt
        have h2 := HAW.out.lt
        have h3 := HBW.out.size
        omega)
      replace HAW := hid (HAW.out.later b14)
      replace HBW := hid (below_call HBW.out b14)
      have HC := hid C14
      have HRD : Hid (Row w14 (some ⟨db, 0, none⟩) 2 122 (u8s [x, x1])) := hid (by
        have := C14.row (n := 2) (cap := 122) (by omega) (by omega)
        rwa [lf_two] at this)
      clear C14 b14 hdb1
      have HSM : Hid (∀ q ∈ [x, x1], q < 256) := hid (fun q hq => by simp at hq; omega)
      go_upto_region 22 with (first | (go_at_call 12; refine (write_ok g pb n (fun i => decide (i < n)) (fun _ _ => 0) p 60 _ 2 122 [x, x1] _ HAW.out htp (by omega) HSM.out HRD.out).mono ?_; rintro e w15 ⟨rfl, A15, b15⟩))
      replace HC := hid (HC.out.but b15 HDB.out.2.1)
      replace HBW := hid (But.below HBW.out b15 (fun j hj => by rw [hj]; exact hpb))
      replace HAW := hid A15
      have hdb3 : db < w15.heap.size := Nat.lt_of_lt_of_le hdb2 b15.size
      clear A15 b15 HRD hdb2
      go_upto_region 23 with (first | (go_at_call 15; refine (read_ok g pb n (fun i => decide (i < n)) _ p 60 4 _ HAW.out htp (by omega)).mono ?_; rintro e w16 ⟨ba, rfl, N16, b16⟩))
      rw [keep_page] at N16
      obtain ⟨bb, bo, rfl, hcb⟩ := N16.row.plain (by omega)
      have HBB : Hid (bb ≠ g ∧ bb ≠ pb ∧ bb ≠ db ∧ w0.heap.size ≤ bb) := hid (by
        have h1 := HAW.out.glt
        have h2 := HAW.out.lt
        have h3 := HBW.out.size
        have h4 := N16.ge bb ⟨_, rfl, rfl⟩
        omega)
      replace HAW := hid (HAW.out.later b16)
      replace HBW := hid (below_call HBW.out b16)
      replace HC := hid (HC.out.later b16)
      have HNB := hid N16
      clear b16 hcb N16
      go_upto_region 24 with (first | (go_at_call 15; refine (read_ok g pb n (fun i => decide (i < n)) _ p 60 4 _ HAW.out htp (by omega)).mono ?_; rintro e w17 ⟨ca, rfl, N17, b17⟩))
      rw [keep_page] at N17
      have HCA : Hid (∀ j, Blk ca j → j ≠ bb ∧ j ≠ db) := hid (fun j hj => by
        have h1 := N17.ge j hj
        have h2 := HNB.out.lt bb ⟨_, rfl, rfl⟩
        have h3 := World.block_lt_of_cell? _ _ (HC.out 0 (by omega)).1
        simp only at h3
        omega)
      replace HAW := hid (HAW.out.later b17)
      replace HBW := hid (below_call HBW.out b17)
      replace HC := hid (HC.out.later b17)
      replace HNB := hid (HNB.out.later b17)
      have HNC := hid N17
      clear b17 N17
      have d0 := HC.out 0 (by omega)
      have d1 := d0.1
      have d2 := d0.2
      have e0 : lf [x, x1] 2 122 0 = x := by simp [lf]
      rw [e0] at d1
      clear d0 e0
      go_upto_region 25 with fail
      have hB18 : But (· = db) w17 (w17.setCell ⟨db, 0, none⟩ (.int .u8 (((x : Int) + 9) % 256))) := (But.refl (· = db) w17).setCell (p := ⟨db, 0, none⟩) (show db = db from rfl) _
      replace HAW := hid (HAW.out.but hB18 (fun e => HDB.out.1 e.symm) (fun e => HDB.out.2.1 e.symm))
      replace HBW := hid (But.below HBW.out hB18 (fun j hj => by rw [hj]; exact HDB.out.2.2))
      replace HNB := hid (HNB.out.but hB18 (fun j hj e => by rw [blk_at hj] at e; exact HBB.out.2.2.1 e))
      replace HNC := hid (HNC.out.but hB18 (fun j hj e => (HCA.out j hj).2 e))
      clear hB18 d1 d2 HC
      generalize w17.setCell ⟨db, 0, none⟩ (.int .u8 (((x : Int) + 9) % 256)) = w18 at HAW HBW HNB HNC ⊢
      go_upto_region 27 with (first | (go_at_call 8; refine (num_any _ _).mono ?_; rintro e w19 ⟨rfl, rfl⟩))
      have d1 := HNB.out.row.cells _ rfl 0 (.int .u8 (x : Int)) rfl
      have d2 := HNB.out.soft _ rfl bo
      rw [addr_add, Nat.add_zero] at d1
      simp only at d2
      go_upto_region 28 with fail
      have hB20 : But (· = bb) w19 (w19.setCell ⟨bb, bo, none⟩ (.int .u8 (x1 : Int))) := (But.refl (· = bb) w19).setCell (p := ⟨bb, bo, none⟩) (show bb = bb from rfl) _
      have hRb : Row (w19.setCell ⟨bb, bo, none⟩ (.int .u8 (x1 : Int))) (some ⟨bb, bo, none⟩) 4 4 ((u8s [x, x1, 0, 0]).set 0 (.int .u8 (x1 : Int))) := by
        have := HNB.out.row.setv (j := 0) (v := .int .u8 (x1 : Int)) (by omega) rfl
        rwa [Nat.add_zero] at this
      replace HAW := hid (HAW.out.but hB20 (fun e => HBB.out.1 e.symm) (fun e => HBB.out.2.1 e.symm))
      replace HBW := hid (But.below HBW.out hB20 (fun j hj => by rw [hj]; exact HBB.out.2.2.2))
      replace HNC := hid (HNC.out.but hB20 (fun j hj e => (HCA.out j hj).1 e))
      clear hB20 d1 d2 HNB
      generalize w19.setCell ⟨bb, bo, none⟩ (.int .u8 (x1 : Int)) = w20 at HAW HBW HNC hRb ⊢
      obtain ⟨g', cap', w21, hrun, _, hB21⟩ := append_full_gen 33 5 _ 1 Try.underlying33 info5 rfl (hRb.alloc (Obj.cells #[.int .u8 9, .int .u8 9, .int .u8 9] 5)) (nine_row w20) (by omega) (by omega) (by omega)
      have HRUN : Hid ((Builtin.append_ #[33, 33] 33 #[.slice (some ⟨bb, bo, none⟩) 4 4, .slice (some ⟨w20.heap.size, 0, none⟩) 3 3]).run Try.prog (w20.alloc (Obj.cells #[.int .u8 9, .int .u8 9, .int .u8 9] 5)) = .ok (.slice (some ⟨g', 0, none⟩) 7 cap') w21) := hid hrun
      have hB22 : Below w20.heap.size w20 w21 := below_call (below1 _ _) hB21
      replace HAW := hid (HAW.out.later hB22)
      replace HBW := hid (below_call HBW.out hB22)
      replace HNC := hid (HNC.out.later hB22)
      clear hB22 hB21 hrun hRb
      go_upto_region 29 with (first | (at_builtin; refine wpList_append_known rfl _ _ 33 rfl _ _ rfl rfl _ w21 HRUN.out ?_))
      go_upto_region 30 with (first | (go_at_call 15; refine (read_ok g pb n (fun i => decide (i < n)) _ p 60 4 _ HAW.out htp (by omega)).mono ?_; rintro e w22 ⟨da, rfl, N22, b22⟩))
      rw [keep_page] at N22
      replace HBW := hid (below_call HBW.out b22)
      replace HNC := hid (HNC.out.later b22)
      have hs4 : ∀ q ∈ [x, x1, 0, 0], q < 256 := fun q hq => by simp at hq; omega
      obtain ⟨sb, hsb⟩ : ∃ sb, sb = strB [x, x1, 0, 0] := ⟨_, rfl⟩
      have cv1 := HNC.out.row.conv hs4
      have cv2 := (xx4_row w22 x x1).conv hs4
      have cv3 := (N22.row.alloc (Obj.cells #[.int .u8 (x : Int), .int .u8 (x1 : Int), .int .u8 0, .int .u8 0] 5)).conv hs4
      have cv4 := (HNC.out.row.alloc (Obj.cells #[.int .u8 (x : Int), .int .u8 (x1 : Int), .int .u8 0, .int .u8 0] 5)).conv hs4
      rw [← hsb] at cv1 cv2 cv3 cv4
      clear hsb hs4 b22 N22 HNC HAW HRUN
      go_wp2
      go_ret
      exact ⟨rfl, HBW.out.alloc HBW.out.size _⟩
end Go.Proofs.Ytfcfacchppkmdaa
