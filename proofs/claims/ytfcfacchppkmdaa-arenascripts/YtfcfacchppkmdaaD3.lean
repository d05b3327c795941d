import Derived.Test.YtfcfacchppkmdaaD2
import Derived.Lib.SmallJoins
namespace Go.Proofs.Ytfcfacchppkmdaa
open Go.RowKit
set_option linter.unusedVariables false

theorem numbers_eq (a b : Option Addr) (n m ca cb : Nat) (A : List Int) (w : World) (hA : Row w a n ca (ints A)) (hB : Row w b m cb (ints A)) (hn : n < 9223372036854775807) :
    Calls Try.prog 17 #[.slice a n ca, .slice b m cb] w fun e w' => e = .returned (.bool true) ∧ Below w.heap.size w w' := by
  refine (numbers_any a b n m ca cb A A w hA hB hn).mono ?_
  rintro e w' ⟨rfl, k, rfl⟩
  exact ⟨by rw [decide_eq_true rfl], below_drewN (Below.refl _ _) _⟩
theorem alive_B : pgL (wrB (fun _ _ => 0) 0 3 [97, 98]) 0 2 3 = [0, 97, 98] := by decide
theorem alive_s : (strB [0, 97, 98]).toList = [0, 97, 98] := by
  rw [ByteArray.toList_eq]
  rfl
theorem alive_l : (lst 2 (fun _ => false) false).take 1 = [0] := by decide
theorem alive_f : (lst 2 (tk (fun _ => false) [0]) false).length = 1 := by decide
theorem alive_k : lst 2 (tk (fun _ => false) [0]) true = [0] := by decide
theorem alive_t : tk (fun _ => false) [0] 0 = true := by decide
theorem ab_conv (W : World) : (convert 33 33 (.slice (some ⟨W.heap.size, 0, none⟩) 2 2)).run Try.prog (W.alloc (Obj.cells #[.int .u8 97, .int .u8 98] 5)) = .ok (.slice (some ⟨W.heap.size, 0, none⟩) 2 2) (W.alloc (Obj.cells #[.int .u8 97, .int .u8 98] 5 (2, 3))) :=
  Lib.run_convert_bytes_const W 33 5 #[.int .u8 97, .int .u8 98] 2 2 Try.underlying33 Try.underlying5
theorem ab_row (w : World) : Row (w.alloc (Obj.cells #[.int .u8 97, .int .u8 98] 5 (2, 3))) (some ⟨w.heap.size, 0, none⟩) 2 2 (u8s [97, 98]) :=
  Row.at rfl (Nat.le_refl _) (u8s_one _) (fun i v hv => by
    match i, hv with
    | 0, hv => simp [u8s] at hv; subst hv; rw [World.cell?_alloc_mark]; rfl
    | 1, hv => simp [u8s] at hv; subst hv; rw [World.cell?_alloc_mark]; rfl
    | _ + 2, hv => simp [u8s] at hv)
set_option maxRecDepth 100000 in
set_option maxHeartbeats 2000000 in
theorem alive_any (w : World) : Calls Try.prog 9 #[] w fun e w' => e = .returned (.bool true) ∧ Below w.heap.size w w' := by
  go_enter Try.func9, Try.ntmps9
  go_upto_region 2 with (first | (go_at_call 7; refine (new_ok 2 _ (by omega)).mono ?_; rintro e w1 ⟨g, pb, rfl, A1, hg, hpb, hb1⟩))
  go_upto_region 4 with (first | (go_at_call 8; refine (num_any _ _).mono ?_; rintro e w2 ⟨rfl, rfl⟩))
  replace A1 := hid A1
  replace hb1 := hid hb1
  have hk1 : 1 ≤ (lst 2 (fun _ => false) false).length := by decide
  go_upto_region 5 with (first | (go_at_call 10; refine (take_ok g pb 2 (fun _ => false) (fun _ _ => 0) 1 _ A1.out hk1).mono ?_; rintro e w3 ⟨la, rfl, N3, A3, b3⟩))
  rw [alive_l] at N3 A3
  have hb3 := hid (But.below hb1.out b3 (fun k hk => by rw [hk]; exact hg))
  replace A3 := hid A3
  have hge : ∀ k, Blk la k → k ≠ g ∧ k ≠ pb := fun k hk => by
    have h1 := N3.ge k hk
    have h2 := A1.out.glt
    have h3 := A1.out.lt
    omega
  have HGE := hid hge
  replace N3 := hid N3
  clear A1 hb1 b3 hk1 hge
  have hcv := ab_conv
  go_upto_region 6 with (first | (go_at_call 12; refine (write_ok g pb 2 (tk (fun _ => false) [0]) (fun _ _ => 0) 0 3 _ 2 2 [97, 98] _ (A3.out.alloc _) alive_t (by omega) (by decide) (ab_row _)).mono ?_; rintro e w4 ⟨rfl, A4, b4⟩))
  have hb4 := hid (But.below (below_call hb3.out (below1 _ _)) b4 (fun k hk => by rw [hk]; exact hpb))
  replace N3 := hid ((N3.out.later (below1 _ _)).but b4 (fun k hk => (HGE.out k hk).2))
  replace A4 := hid A4
  clear A3 hb3 b4 hcv
  go_upto_region 7 with (first | (go_at_call 15; refine (read_ok g pb 2 (tk (fun _ => false) [0]) (wrB (fun _ _ => 0) 0 3 [97, 98]) 0 2 3 _ A4.out alive_t (by omega)).mono ?_; rintro e w5 ⟨ba, rfl, N5, b5⟩))
  rw [alive_B] at N5
  replace N3 := hid (N3.out.later b5)
  replace A4 := hid (A4.out.later b5)
  have hb5 := hid (below_call hb4.out b5)
  replace N5 := hid N5
  clear hb4 b5 HGE
  have hs := alive_s
  obtain ⟨sb, hsb⟩ : ∃ sb, sb = strB [0, 97, 98] := ⟨_, rfl⟩
  rw [← hsb] at hs
  have HSB := hid hsb
  clear hsb
  go_wp2_with (first
    | (go_at_call 17; have hq_ := MK; clear hq_; refine (numbers_eq _ _ _ _ _ _ [0] _ (N8.out.read.alloc _) (Row.single _ 3 (.int .i64 0) rfl) (by omega)).mono ?_; rintro e w9 ⟨rfl, b9⟩; have hb9 := hid (below_call (below_call hb8.out (below1 _ _)) b9))
    | (go_at_call 17; refine (numbers_eq _ _ _ _ _ _ [0] _ (N3.out.row.alloc _) (Row.single _ 3 (.int .i64 0) rfl) (by omega)).mono ?_; rintro e w6 ⟨rfl, b6⟩; have hb6 := hid (below_call (below_call hb5.out (below1 _ _)) b6); have A6 := hid ((A4.out.alloc _).later b6); have cv := ((N5.out.row.alloc _).later b6).conv (by decide); rw [← HSB.out] at cv)
    | (go_at_call 8; refine (num_any _ _).mono ?_; rintro e w2 ⟨rfl, rfl⟩)
    | (go_at_call 11; refine (free_any g pb 2 (tk (fun _ => false) [0]) _ _ A6.out).mono ?_; rintro e w7 ⟨rfl, b7⟩; rw [alive_f]; have hb7 := hid (below_call hb6.out b7); have A7 := hid (A6.out.later b7))
    | (go_at_call 14; refine (taken_any g pb 2 (tk (fun _ => false) [0]) _ _ A7.out).mono ?_; rintro e w8 ⟨ka, km, kc, rfl, N8, b8⟩; rw [alive_k] at N8; have hb8 := hid (below_call hb7.out b8); obtain rfl : km = 1 := N8.len.symm; replace N8 := hid N8; obtain ⟨MK, _⟩ : ∃ m : Nat, m = 0 := ⟨0, rfl⟩))
  go_ret
  exact ⟨rfl, hb9.out⟩
end Go.Proofs.Ytfcfacchppkmdaa
