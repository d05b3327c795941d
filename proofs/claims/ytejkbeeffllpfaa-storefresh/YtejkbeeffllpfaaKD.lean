import Derived.Test.YtejkbeeffllpfaaKC
namespace Go.Proofs.Ytejkbeeffllpfaa
open Go.RowKit
set_option linter.unusedVariables false

theorem head_m1 : mayE 2 3 1 [] 65 = 0 := by decide
theorem head_m2 (P : List Nat) (a : Option Addr) : mayE 2 3 2 ([] ++ [⟨1, List.replicate 65 0, P, a⟩]) 65 = 8 := by
  simp [mayE, usedN, needN]
theorem head_m3 (P : List Nat) (a : Option Addr) : mayE 2 3 2 ([] ++ [⟨1, List.replicate 65 0, P, a⟩]) 0 = 0 := by
  simp [mayE, usedN, needN]
def headO (P P2 : List Nat) (a a2 : Option Addr) : List Ob := ([] ++ [⟨1, List.replicate 65 0, P, a⟩]) ++ [⟨2, List.replicate 0 0, P2, a2⟩]
theorem head_w (P P2 : List Nat) (a a2 : Option Addr) : rdE (headO P P2 a a2) 1 62 3 = 0 := by
  simp [rdE, at?, headO]
theorem head_o (P P2 : List Nat) (a a2 : Option Addr) : wrO (headO P P2 a a2) 1 62 [7, 8, 9] = [⟨1, List.replicate 62 0 ++ [7, 8, 9], P, a⟩, ⟨2, [], P2, a2⟩] := by
  unfold wrO
  rw [show (([7, 8, 9] : List Nat).length : Int) = 3 from rfl, if_pos (head_w P P2 a a2)]
  simp [headO, setO, putL]
theorem head_r (P P2 : List Nat) (a a2 : Option Addr) : rdL [⟨1, List.replicate 62 0 ++ [7, 8, 9], P, a⟩, ⟨2, [], P2, a2⟩] 1 61 4 = [0, 7, 8, 9] ∧ rdE [⟨1, List.replicate 62 0 ++ [7, 8, 9], P, a⟩, ⟨2, [], P2, a2⟩] 1 61 4 = 0 := by
  constructor
  · simp only [rdL, at?, List.find?]
    simp
  · simp [rdE, at?]
theorem head_u (P P2 : List Nat) (a a2 : Option Addr) : 3 - usedN [⟨1, List.replicate 62 0 ++ [7, 8, 9], P, a⟩, ⟨2, [], P2, a2⟩] = 1 := by
  simp [usedN, needN]
set_option maxRecDepth 100000 in
set_option maxHeartbeats 2000000 in
theorem head_any (w : World) : Calls Try.prog 7 #[] w fun e w' => e = .returned (.bool true) ∧ Below w.heap.size w w' := by
  go_enter Try.func7, Try.ntmps7
  go_upto_region 4 with (first | (go_at_call 6; refine (st_new 2 3 _ (by omega) (by omega)).mono ?_; rintro e w1 ⟨z, hn, hroom, rfl, S1, hz, hb1⟩))
  obtain ⟨s, g, pb, m, n, room⟩ := z
  simp only at hn hroom
  subst hn hroom
  simp only
  have H1 := hid S1
  have HZ := hid hz
  have HB1 := hid hb1
  clear S1 hz hb1
  go_upto_region 5 with (first | (go_at_call 8; refine (st_create_ok ⟨s, g, pb, m, 3, 2⟩ 1 [] 65 _ H1.out head_m1).mono ?_; rintro e w2 ⟨P, a, rfl, hbl, S2, B2⟩))
  have H2 := hid S2
  have HB2 := hid B2
  have HBL := hid hbl
  clear S2 B2 hbl
  go_upto_region 6 with (first | (go_at_call 8; refine (st_create_bad ⟨s, g, pb, m, 3, 2⟩ 2 _ 65 8 _ H2.out (head_m2 P a) (by decide)).mono ?_; rintro e w3 ⟨rfl, hb⟩))
  have H3 := hid (H2.out.later hb)
  have HB3 := hid (HB2.out.call hb)
  clear hb
  go_upto_region 7 with (first | (go_at_call 8; refine (st_create_ok ⟨s, g, pb, m, 3, 2⟩ 2 _ 0 _ H3.out (head_m3 P a)).mono ?_; rintro e w4 ⟨P2, a2, rfl, hbl, S4, B4⟩))
  have H4 : Hid (St w4 ⟨s, g, pb, m, 3, 2⟩ 3 (headO P P2 a a2)) := hid S4
  have HB4 := hid (HB3.out.trans B4)
  clear S4 B4 hbl
  have HR4 : Hid (Row (w4.alloc (.cells #[.int .u8 7, .int .u8 8, .int .u8 9] 5)) (some ⟨w4.heap.size, 0, none⟩) 3 3 (u8s [7, 8, 9])) := hid (row_new w4 [7, 8, 9] 5)
  have HAP : Hid (∀ j, Blk (some ⟨w4.heap.size, 0, none⟩) j → ¬ Zb ⟨s, g, pb, m, 3, 2⟩ j) := hid (fun j hj e => by
    have := H4.out.zlt j e
    rw [blk_at hj] at this
    omega)
  have HA4 := hid (H4.out.later (below1 w4 (.cells #[.int .u8 7, .int .u8 8, .int .u8 9] 5)))
  go_upto_region 8 with (first | (go_at_call 12; refine (st_write ⟨s, g, pb, m, 3, 2⟩ 3 (headO P P2 a a2) 1 62 _ 3 3 [7, 8, 9] _ HA4.out (by unfold i64ok; omega) HR4.out (by decide) (fun _ => HAP.out)).mono ?_; rintro e w5 ⟨rfl, S5, B5⟩))
  rw [head_o] at S5
  obtain ⟨Q, hQ⟩ : ∃ Q : List Ob, Q = [⟨1, List.replicate 62 0 ++ [7, 8, 9], P, a⟩, ⟨2, [], P2, a2⟩] := ⟨_, rfl⟩
  have hr1 := (head_r P P2 a a2).1
  have hr2 := (head_r P P2 a a2).2
  have hu := head_u P P2 a a2
  rw [← hQ] at S5 hr1 hr2 hu
  clear hQ
  have H5 := hid S5
  have HB5 := hid ((HB4.out.call (below1 _ _)).trans B5)
  rw [head_w]
  clear S5 B5 HR4 HAP HA4
  go_upto_region 9 with (first | (go_at_call 10; refine (st_read ⟨s, g, pb, m, 3, 2⟩ 3 Q 1 61 4 _ H5.out (by unfold i64ok; omega)).mono ?_; rintro e w6 ⟨a6, c6, rfl, O6, B6⟩))
  rw [hr1] at O6
  have HO6 := hid O6
  have H6 := hid (H5.out.later B6)
  have HB6 := hid (HB5.out.call B6)
  clear O6 B6
  have HR7 : Hid (Row (w6.alloc (.cells #[.int .u8 0, .int .u8 7, .int .u8 8, .int .u8 9] 5)) (some ⟨w6.heap.size, 0, none⟩) 4 4 (u8s [0, 7, 8, 9])) := hid (row_new w6 [0, 7, 8, 9] 5)
  have HO7 := hid (HO6.out.read.alloc (.cells #[.int .u8 0, .int .u8 7, .int .u8 8, .int .u8 9] 5))
  have H7 := hid (H6.out.later (below1 w6 (.cells #[.int .u8 0, .int .u8 7, .int .u8 8, .int .u8 9] 5)))
  go_wp2_with (first
    | (go_at_call 23; have hq_ := H8; clear hq_; refine (st_next ⟨s, g, pb, m, 3, 2⟩ 3 Q _ H8.out).mono ?_; rintro e w9 ⟨rfl, hw⟩; obtain rfl := hw.symm)
    | (go_at_call 9; refine (st_free ⟨s, g, pb, m, 3, 2⟩ 3 Q _ H7.out).mono ?_; rintro e w8 ⟨rfl, B8⟩; simp only [hu]; have H8 := hid (H7.out.later B8); have HB8 := hid B8; clear B8)
    | (go_at_call 11; refine (same_any _ _ 4 4 c6 4 [0, 7, 8, 9] [0, 7, 8, 9] _ HO7.out HR7.out (by decide) (by decide)).mono ?_; rintro e w7 ⟨rfl, hw⟩; obtain rfl := hw.symm))
  go_ret
  refine ⟨rfl, ?_⟩
  have h1 : Below w.heap.size w w6 := But.below HB1.out HB6.out (fun k hk => (HZ.out k hk).1)
  exact below_call (below_call h1 (below1 _ _)) HB8.out
end Go.Proofs.Ytejkbeeffllpfaa
