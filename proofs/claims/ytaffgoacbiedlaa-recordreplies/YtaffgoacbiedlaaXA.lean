import Derived.Test.YtaffgoacbiedlaaX3
namespace Go.Proofs.Ytaffgoacbiedlaa
open Go.RowKit
set_option linter.unusedVariables false
set_option linter.unusedSimpArgs false

set_option maxRecDepth 100000 in
set_option maxHeartbeats 8000000 in
theorem rrx (op code obj number cut : Int) (hi lo : Nat) (da : Option Addr) (dn dc : Nat) (D : List Nat) (w : World) (hD : Row w da dn dc D) (h1 : hi < 18446744073709551616) (h2 : lo < 18446744073709551616) (x q : Int) (hq : op % 10 = q) (hx : IntKind.i64.wrap (1 + q) = x) (hc : code % 65536 = 0) (n1 : (x == 1) = false) (n3 : (x == 3) = false) (n5 : (x == 5) = false) (n9 : (x == 9) = false) (k : Nat) (hk : cut % (2 : Int) = (k : Int)) (hkl : k < 2) (hf : rfm x (rpz 0) = true) (hz : (rly x (rpz 0)).length = 2) :
    Calls Try.prog 3 #[.int .i64 op, .agg #[.int .i64 code, .int .i64 obj, .int .u64 (hi : Int), .int .u64 (lo : Int), .slice da dn dc, .int .i64 number], .int .i64 cut] w fun e w' => e = .returned (.bool true) ∧ Below w.heap.size w w' := by
  have HQ := hid hq
  have HC := hid hc
  have HK := hid hk
  have HKL := hid hkl
  have HF := hid hf
  have HSZ := hid hz
  have HDD := hid hD
  have HPS := hid (psr_lay hf (r := (rpz 0)) (by first | exact h1 | (show (0 : Nat) < _; omega)) (by first | exact h2 | (show (0 : Nat) < _; omega)))
  clear hq hc hk hkl hf hz hD
  have mk0 := hid True.intro
  go_enter Try.func3, Try.ntmps3
  go_upto_region 16 with (first | (clear mk0; go_at_call 9; refine (into_is op 10 _ (by omega) (by omega) HQ.out).mono ?_; rintro e w9 ⟨rfl, hw9⟩; obtain rfl := hw9.symm; have mk1 := hid True.intro) | (clear mk1; go_at_call 9; refine (into_is code 65536 _ (by omega) (by omega) HC.out).mono ?_; rintro e w9 ⟨rfl, hw9⟩; obtain rfl := hw9.symm; have mk2 := hid True.intro))
  have X3 : Bx ((w.alloc (Obj.cells #[.int .i64 code, .int .i64 obj, .int .u64 (hi : Int), .int .u64 (lo : Int), .slice da dn dc, .int .i64 number] 30)).alloc (Obj.cells #[.int .i64 0, .int .i64 0, .int .u64 0, .int .u64 0, .slice none 0 0, .int .i64 0] 30)) (w.heap.size + 1) [.int .i64 0, .int .i64 0, .int .u64 0, .int .u64 0, .slice none 0 0, .int .i64 0] := by (have := Bx.new (w.alloc (Obj.cells #[.int .i64 code, .int .i64 obj, .int .u64 (hi : Int), .int .u64 (lo : Int), .slice da dn dc, .int .i64 number] 30)) [.int .i64 0, .int .i64 0, .int .u64 0, .int .u64 0, .slice none 0 0, .int .i64 0] 30; simp at this; exact this)
  have B3 : Below w.heap.size w ((w.alloc (Obj.cells #[.int .i64 code, .int .i64 obj, .int .u64 (hi : Int), .int .u64 (lo : Int), .slice da dn dc, .int .i64 number] 30)).alloc (Obj.cells #[.int .i64 0, .int .i64 0, .int .u64 0, .int .u64 0, .slice none 0 0, .int .i64 0] 30)) := below2 _ _ _
  generalize ((w.alloc (Obj.cells #[.int .i64 code, .int .i64 obj, .int .u64 (hi : Int), .int .u64 (lo : Int), .slice da dn dc, .int .i64 number] 30)).alloc (Obj.cells #[.int .i64 0, .int .i64 0, .int .u64 0, .int .u64 0, .slice none 0 0, .int .i64 0] 30)) = w3 at X3 B3 ⊢
  have HR0 : Hid (Rr w [.int .i64 0, .int .i64 0, .int .u64 0, .int .u64 0, .slice none 0 0, .int .i64 0] (rpz 0)) := ⟨Sl.nil, rfl, row_nil _, by simp [rpz], by simp [rpz]⟩
  obtain ⟨M, hM⟩ : ∃ M : List Value, M = [.int .i64 0, .int .i64 0, .int .u64 0, .int .u64 0, .slice none 0 0, .int .i64 0] := ⟨_, rfl⟩
  have HMF : Hid (M[0]? = some (.int .i64 0) ∧ M[4]? = some (.slice none 0 0)) := by unfold Hid; rw [hM]; exact ⟨rfl, rfl⟩
  have HMS : Hid (Rr w ((M.set 0 (.int .i64 7)).set 5 (.int .i64 1)) ⟨7, (rpz 0).obj, (rpz 0).hi, (rpz 0).lo, (rpz 0).data, 1⟩) := by
    unfold Hid
    obtain ⟨d, e, h5, h6, h7⟩ := HR0.out.ex
    rw [hM, e]
    exact ⟨d, rfl, h5, h6, h7⟩
  rw [← hM] at X3 HR0
  have hml : M.length = 6 := by rw [hM]; rfl
  clear hM
  obtain ⟨Z, hZl, hZo, hZz, hz⟩ := zero30
  have hZ0 : (Z.toArray = #[]) = False := by simp; intro h; rw [h] at hZl; simp at hZl
  have HZZ := hid hZz
  have HZO := hid hZo
  have HLD3 := hid (ld30 X3.range hml)
  have HX3 := hid X3
  have HB3 := hid B3
  clear X3 B3 hZz hZo
  have mm0 := hid True.intro
  go_upto_region 21 with (first | ((with_reducible refine ld_armg HLDL.out ?_ ?_ ?_); (· rfl); (· rfl)) | ((with_reducible refine ld_armg HLDM.out ?_ ?_ ?_); (· rfl); (· rfl)) | ((with_reducible refine ld_arm HLD3.out ?_ ?_); (· rfl)) | (clear mm0; go_at_call 10; refine (answer_ok x M (rpz 0) _ (HR0.out.later HB3.out) HF.out).mono ?_; rintro e w4 ⟨a4, n4, c4, rfl, hown4, hb4⟩; have hn4 := hown4.len; rw [HSZ.out] at hn4; obtain rfl := hn4; have HO4 := hid hown4; have HX4 := hid (HX3.out.later hb4); have HB4 := hid (below_call HB3.out hb4); clear hown4 hb4; have mm1 := hid True.intro) | (clear mm1; go_at_call 11; refine (panswer_some x a4 2 c4 (rly x (rpz 0)) _ HO4.out.read (by have := HKL.out; omega) HPS.out).mono ?_; rintro e w5 ⟨L, rfl, hc5, hb5⟩; have hll := hc5.len; obtain ⟨w6, hst6, hx6, hb6⟩ := store_new w5 (Z := Z) (t := 30) (hll.trans hZl.symm) hc5.one; have HXL6 := hid hx6; have HRL6 := hid (hc5.rr.later hb6); have HX6 := hid ((HX4.out.later hb5).later hb6); have HO6 := hid ((HO4.out.later hb5).later hb6); have HB6 := hid (below_call (below_call HB4.out hb5) hb6); clear hc5 hb5 hb6 hx6; have mm2 := hid True.intro) | (clear mm2; go_at_call 12; refine (known_any _).mono ?_; rintro e w7 ⟨rfl, hb7⟩; have HLDL := hid (ld30 (HXL6.out.later hb7).range hll); have HLDM := hid (ld30 (HX6.out.later hb7).range hml); have HRL7 := hid (HRL6.out.later hb7); have HX7 := hid (HX6.out.later hb7); have HO7 := hid (HO6.out.later hb7); have HB7 := hid (below_call HB6.out hb7); clear hb7; have mm3 := hid True.intro) | (clear mm3; go_at_call 13; refine (sameQ L M (rpz 0) _ HRL7.out (HR0.out.later HB7.out)).mono ?_; rintro e w8 ⟨rfl, hb8⟩; have HX8 := hid (HX7.out.later hb8); have HO8 := hid (HO7.out.later hb8); have HB8 := hid (below_call HB7.out hb8); clear hb8; have mm4 := hid True.intro) | (clear mm4; go_at_call 9; refine (into_is cut 2 _ (by omega) (by omega) HK.out).mono ?_; rintro e w9 ⟨rfl, hw9⟩; obtain rfl := hw9.symm; have mm5 := hid True.intro))
  have hsl := slice_hi a4 2 c4 k (by have := HO8.out.read.cap_; have := HKL.out; omega)
  have HTK := hid (HO8.out.read.take k (by have := HKL.out; omega) (HO8.out.read.none_len k (by have := HKL.out; omega)))
  have HG : Hid (psR x ((rly x (rpz 0)).take k) = none) := psr_not (o := rpz 0) (fun y hy => HO8.out.small y (List.mem_of_mem_take hy)) HF.out (.inl (by simpa using n5)) (by rw [List.length_take, HSZ.out]; have := HKL.out; omega) (fun _ => by rw [List.take_take]; congr 1; rename_i h; rw [List.length_take] at h; omega)
  go_upto_region 23 with (first | (clear mm5; go_at_call 11; refine (panswer_none x a4 k c4 _ _ HTK.out (by have := HKL.out; omega) HG.out).mono ?_; rintro e w10 ⟨rfl, hb10⟩; rw [← HZZ.out]; obtain ⟨w11, hst11, hx11, hb11⟩ := store_new w10 (Z := Z) (t := 30) rfl HZO.out; have HX11 := hid ((HX8.out.later hb10).later hb11); have HO11 := hid ((HO8.out.later hb10).later hb11); have HB11 := hid (below_call (below_call HB8.out hb10) hb11); have z0 := HX11.out.cell 0 HMF.out.1; have z4 := HX11.out.cell 4 HMF.out.2; clear hb10 hb11 hx11; have mm6 := hid True.intro))
  obtain ⟨a12, c12, w12, hrun12, hown12, hgr12⟩ := append_any (Own.empty w11) (HO11.out.read.alloc (Obj.cells #[] 5)) (by simp) (by have := HKL.out; omega)
  rw [Nat.zero_add, List.nil_append] at hown12
  rw [Nat.zero_add] at hrun12
  have T12 : Below w11.heap.size w11 w12 := But.below (below1 w11 _) hgr12.but (fun j hj => (Own.empty w11).blk j hj)
  obtain ⟨a13, c13, w13, hrun13, hown13, hgr13⟩ := append_byte (b := 0) hown12 T12.size (by have := HKL.out; omega) (by omega)
  have T13 : Below w11.heap.size w11 w13 := But.below T12 hgr13.but (fun j hj => hown12.blk j hj)
  have HRUN12 := hid hrun12
  have HRUN13 := hid hrun13
  have HO13 := hid hown13
  have HX13 := hid (HX11.out.later T13)
  have HB13 := hid (below_call HB11.out T13)
  have HH : Hid (psR x (rly x (rpz 0) ++ [0]) = none) := psr_not (o := rpz 0) (fun y hy => hown13.small y hy) HF.out (.inl (by simpa using n5)) (by rw [List.length_append, HSZ.out]; simp) (fun _ => by rw [List.take_append_of_le_length (by rw [HSZ.out]; omega)])
  clear hrun12 hrun13 hown12 hown13 hgr12 hgr13 T12 T13 z0 z4
  go_upto_region 30 with (first | (clear mm6; at_builtin; refine wpList_append_known rfl _ _ 28 rfl _ _ rfl rfl _ w12 HRUN12.out ?_; have mm7 := hid True.intro) | (clear mm7; at_builtin; refine wpList_append_known rfl _ _ 28 rfl _ _ rfl rfl _ w13 HRUN13.out ?_; have mm8 := hid True.intro) | ((with_reducible refine ld_arm HLD15.out ?_ ?_); (· rfl)) | (clear mm8; go_at_call 11; refine (panswer_none x a13 _ c13 _ _ HO13.out.read (by have := HKL.out; omega) HH.out).mono ?_; rintro e w14 ⟨rfl, hb14⟩; rw [← HZZ.out]; obtain ⟨w15, hst15, hx15, hb15⟩ := store_new w14 (Z := Z) (t := 30) rfl HZO.out; have HX15 := hid ((HX13.out.later hb14).later hb15); have HB15 := hid (below_call (below_call HB13.out hb14) hb15); have z0 : w15.cell? ⟨w.heap.size + 1, 0, none⟩ = some (.int .i64 0) := HX15.out.cell 0 HMF.out.1; have z4 : w15.cell? ⟨w.heap.size + 1, 4, none⟩ = some (.slice none 0 0) := HX15.out.cell 4 HMF.out.2; have z5 := (HX15.out.there 5 (by omega)).1; have f0 : w15.frozen? ⟨w.heap.size + 1, 0, none⟩ = false := (HX15.out.there 0 (by omega)).2; have f5 : w15.frozen? ⟨w.heap.size + 1, 5, none⟩ = false := (HX15.out.there 5 (by omega)).2; obtain ⟨v5, z5⟩ := Option.isSome_iff_exists.1 z5; have z5 : w15.cell? ⟨w.heap.size + 1, 5, none⟩ = some v5 := z5; have HLD15 := hid (ld30 (Bx.putq (Bx.putq HX15.out (j := 0) (by omega) (.int .i64 7)) (j := 5) (by simp; omega) (.int .i64 1)).range (by simp [hml])); clear hb14 hb15 hx15; have mm9 := hid True.intro) | (clear mm9; go_at_call 10; refine (answer_bad x ((M.set 0 (.int .i64 7)).set 5 (.int .i64 1)) ⟨7, (rpz 0).obj, (rpz 0).hi, (rpz 0).lo, (rpz 0).data, 1⟩ _ (HMS.out.later ((HB15.out.setCell (Nat.le_succ _) _).setCell (Nat.le_succ _) _)) (by simp [rfm, tnB])).mono ?_; rintro e w16 ⟨rfl, hb16⟩; have HB16 := hid (below_call ((HB15.out.setCell (p := ⟨w.heap.size + 1, 0, none⟩) (Nat.le_succ _) _).setCell (p := ⟨w.heap.size + 1, 5, none⟩) (Nat.le_succ _) _) hb16); clear hb16; have mn0 := hid True.intro) | (clear mn0; go_at_call 10; refine (answer_bad 0 Z (rpz 0) _ (by rw [HZZ.out]; exact rzq _) rfl).mono ?_; rintro e w17 ⟨rfl, hb17⟩; have HB17 := hid (below_call HB16.out hb17); clear hb17; have mn1 := hid True.intro))
  clear hz hZ0
  go_wp2_with (first | (go_at_call 10; refine (answer_bad 11 (rC (rpz 7) Sl.nil) (rpz 7) _ ⟨Sl.nil, rfl, row_nil _, by simp [rpz], by simp [rpz]⟩ rfl).mono ?_; rintro e w18 ⟨rfl, hb18⟩; have HB18 := hid (below_call HB17.out hb18); clear hb18))
  go_ret
  exact ⟨rfl, HB18.out⟩
set_option maxRecDepth 100000 in
set_option maxHeartbeats 8000000 in
theorem rrNA (op code obj number cut : Int) (hi lo : Nat) (da : Option Addr) (dn dc : Nat) (D : List Nat) (w : World) (hD : Row w da dn dc D) (h1 : hi < 18446744073709551616) (h2 : lo < 18446744073709551616) (x q c : Int) (hq : op % 10 = q) (hx : IntKind.i64.wrap (1 + q) = x) (hc : code % 65536 = c) (n5 : (x == 5) = false) (hcn : (c == 0) = false) (k : Nat) (hk : cut % (2 : Int) = (k : Int)) (hkl : k < 2) (hf : rfm x (rpz c) = true) (hz : (rly x (rpz c)).length = 2) :
    Calls Try.prog 3 #[.int .i64 op, .agg #[.int .i64 code, .int .i64 obj, .int .u64 (hi : Int), .int .u64 (lo : Int), .slice da dn dc, .int .i64 number], .int .i64 cut] w fun e w' => e = .returned (.bool true) ∧ Below w.heap.size w w' := by
  have HQ := hid hq
  have HC := hid hc
  have HK := hid hk
  have HKL := hid hkl
  have HF := hid hf
  have HSZ := hid hz
  have HDD := hid hD
  have HPS := hid (psr_lay hf (r := (rpz c)) (by first | exact h1 | (show (0 : Nat) < _; omega)) (by first | exact h2 | (show (0 : Nat) < _; omega)))
  clear hq hc hk hkl hf hz hD
  have mk0 := hid True.intro
  go_enter Try.func3, Try.ntmps3
  go_upto_region 16 with (first | (clear mk0; go_at_call 9; refine (into_is op 10 _ (by omega) (by omega) HQ.out).mono ?_; rintro e w9 ⟨rfl, hw9⟩; obtain rfl := hw9.symm; have mk1 := hid True.intro) | (clear mk1; go_at_call 9; refine (into_is code 65536 _ (by omega) (by omega) HC.out).mono ?_; rintro e w9 ⟨rfl, hw9⟩; obtain rfl := hw9.symm; have mk2 := hid True.intro))
  have X3 : Bx ((w.alloc (Obj.cells #[.int .i64 code, .int .i64 obj, .int .u64 (hi : Int), .int .u64 (lo : Int), .slice da dn dc, .int .i64 number] 30)).alloc (Obj.cells #[.int .i64 c, .int .i64 0, .int .u64 0, .int .u64 0, .slice none 0 0, .int .i64 0] 30)) (w.heap.size + 1) [.int .i64 c, .int .i64 0, .int .u64 0, .int .u64 0, .slice none 0 0, .int .i64 0] := by (have := Bx.new (w.alloc (Obj.cells #[.int .i64 code, .int .i64 obj, .int .u64 (hi : Int), .int .u64 (lo : Int), .slice da dn dc, .int .i64 number] 30)) [.int .i64 c, .int .i64 0, .int .u64 0, .int .u64 0, .slice none 0 0, .int .i64 0] 30; simp at this; exact this)
  have B3 : Below w.heap.size w ((w.alloc (Obj.cells #[.int .i64 code, .int .i64 obj, .int .u64 (hi : Int), .int .u64 (lo : Int), .slice da dn dc, .int .i64 number] 30)).alloc (Obj.cells #[.int .i64 c, .int .i64 0, .int .u64 0, .int .u64 0, .slice none 0 0, .int .i64 0] 30)) := below2 _ _ _
  generalize ((w.alloc (Obj.cells #[.int .i64 code, .int .i64 obj, .int .u64 (hi : Int), .int .u64 (lo : Int), .slice da dn dc, .int .i64 number] 30)).alloc (Obj.cells #[.int .i64 c, .int .i64 0, .int .u64 0, .int .u64 0, .slice none 0 0, .int .i64 0] 30)) = w3 at X3 B3 ⊢
  have HR0 : Hid (Rr w [.int .i64 c, .int .i64 0, .int .u64 0, .int .u64 0, .slice none 0 0, .int .i64 0] (rpz c)) := ⟨Sl.nil, rfl, row_nil _, by simp [rpz], by simp [rpz]⟩
  obtain ⟨M, hM⟩ : ∃ M : List Value, M = [.int .i64 c, .int .i64 0, .int .u64 0, .int .u64 0, .slice none 0 0, .int .i64 0] := ⟨_, rfl⟩
  have HMF : Hid (M[0]? = some (.int .i64 c) ∧ M[4]? = some (.slice none 0 0)) := by unfold Hid; rw [hM]; exact ⟨rfl, rfl⟩
  have HMS : Hid (Rr w ((M.set 0 (.int .i64 7)).set 5 (.int .i64 1)) ⟨7, (rpz c).obj, (rpz c).hi, (rpz c).lo, (rpz c).data, 1⟩) := by
    unfold Hid
    obtain ⟨d, e, h5, h6, h7⟩ := HR0.out.ex
    rw [hM, e]
    exact ⟨d, rfl, h5, h6, h7⟩
  rw [← hM] at X3 HR0
  have hml : M.length = 6 := by rw [hM]; rfl
  clear hM
  obtain ⟨Z, hZl, hZo, hZz, hz⟩ := zero30
  have hZ0 : (Z.toArray = #[]) = False := by simp; intro h; rw [h] at hZl; simp at hZl
  have HZZ := hid hZz
  have HZO := hid hZo
  have HLD3 := hid (ld30 X3.range hml)
  have HX3 := hid X3
  have HB3 := hid B3
  clear X3 B3 hZz hZo
  have mm0 := hid True.intro
  go_upto_region 21 with (first | ((with_reducible refine ld_armg HLDL.out ?_ ?_ ?_); (· rfl); (· rfl)) | ((with_reducible refine ld_armg HLDM.out ?_ ?_ ?_); (· rfl); (· rfl)) | ((with_reducible refine ld_arm HLD3.out ?_ ?_); (· rfl)) | (clear mm0; go_at_call 10; refine (answer_ok x M (rpz c) _ (HR0.out.later HB3.out) HF.out).mono ?_; rintro e w4 ⟨a4, n4, c4, rfl, hown4, hb4⟩; have hn4 := hown4.len; rw [HSZ.out] at hn4; obtain rfl := hn4; have HO4 := hid hown4; have HX4 := hid (HX3.out.later hb4); have HB4 := hid (below_call HB3.out hb4); clear hown4 hb4; have mm1 := hid True.intro) | (clear mm1; go_at_call 11; refine (panswer_some x a4 2 c4 (rly x (rpz c)) _ HO4.out.read (by have := HKL.out; omega) HPS.out).mono ?_; rintro e w5 ⟨L, rfl, hc5, hb5⟩; have hll := hc5.len; obtain ⟨w6, hst6, hx6, hb6⟩ := store_new w5 (Z := Z) (t := 30) (hll.trans hZl.symm) hc5.one; have HXL6 := hid hx6; have HRL6 := hid (hc5.rr.later hb6); have HX6 := hid ((HX4.out.later hb5).later hb6); have HO6 := hid ((HO4.out.later hb5).later hb6); have HB6 := hid (below_call (below_call HB4.out hb5) hb6); clear hc5 hb5 hb6 hx6; have mm2 := hid True.intro) | (clear mm2; go_at_call 12; refine (known_any _).mono ?_; rintro e w7 ⟨rfl, hb7⟩; have HLDL := hid (ld30 (HXL6.out.later hb7).range hll); have HLDM := hid (ld30 (HX6.out.later hb7).range hml); have HRL7 := hid (HRL6.out.later hb7); have HX7 := hid (HX6.out.later hb7); have HO7 := hid (HO6.out.later hb7); have HB7 := hid (below_call HB6.out hb7); clear hb7; have mm3 := hid True.intro) | (clear mm3; go_at_call 13; refine (sameQ L M (rpz c) _ HRL7.out (HR0.out.later HB7.out)).mono ?_; rintro e w8 ⟨rfl, hb8⟩; have HX8 := hid (HX7.out.later hb8); have HO8 := hid (HO7.out.later hb8); have HB8 := hid (below_call HB7.out hb8); clear hb8; have mm4 := hid True.intro) | (clear mm4; go_at_call 9; refine (into_is cut 2 _ (by omega) (by omega) HK.out).mono ?_; rintro e w9 ⟨rfl, hw9⟩; obtain rfl := hw9.symm; have mm5 := hid True.intro))
  have hsl := slice_hi a4 2 c4 k (by have := HO8.out.read.cap_; have := HKL.out; omega)
  have HTK := hid (HO8.out.read.take k (by have := HKL.out; omega) (HO8.out.read.none_len k (by have := HKL.out; omega)))
  have HG : Hid (psR x ((rly x (rpz c)).take k) = none) := psr_not (o := rpz c) (fun y hy => HO8.out.small y (List.mem_of_mem_take hy)) HF.out (.inr (by show c ≠ 0; simpa using hcn)) (by rw [List.length_take, HSZ.out]; have := HKL.out; omega) (fun _ => by rw [List.take_take]; congr 1; rename_i h; rw [List.length_take] at h; omega)
  go_upto_region 23 with (first | (clear mm5; go_at_call 11; refine (panswer_none x a4 k c4 _ _ HTK.out (by have := HKL.out; omega) HG.out).mono ?_; rintro e w10 ⟨rfl, hb10⟩; rw [← HZZ.out]; obtain ⟨w11, hst11, hx11, hb11⟩ := store_new w10 (Z := Z) (t := 30) rfl HZO.out; have HX11 := hid ((HX8.out.later hb10).later hb11); have HO11 := hid ((HO8.out.later hb10).later hb11); have HB11 := hid (below_call (below_call HB8.out hb10) hb11); have z0 := HX11.out.cell 0 HMF.out.1; have z4 := HX11.out.cell 4 HMF.out.2; clear hb10 hb11 hx11; have mm6 := hid True.intro))
  obtain ⟨a12, c12, w12, hrun12, hown12, hgr12⟩ := append_any (Own.empty w11) (HO11.out.read.alloc (Obj.cells #[] 5)) (by simp) (by have := HKL.out; omega)
  rw [Nat.zero_add, List.nil_append] at hown12
  rw [Nat.zero_add] at hrun12
  have T12 : Below w11.heap.size w11 w12 := But.below (below1 w11 _) hgr12.but (fun j hj => (Own.empty w11).blk j hj)
  obtain ⟨a13, c13, w13, hrun13, hown13, hgr13⟩ := append_byte (b := 0) hown12 T12.size (by have := HKL.out; omega) (by omega)
  have T13 : Below w11.heap.size w11 w13 := But.below T12 hgr13.but (fun j hj => hown12.blk j hj)
  have HRUN12 := hid hrun12
  have HRUN13 := hid hrun13
  have HO13 := hid hown13
  have HX13 := hid (HX11.out.later T13)
  have HB13 := hid (below_call HB11.out T13)
  have HH : Hid (psR x (rly x (rpz c) ++ [0]) = none) := psr_not (o := rpz c) (fun y hy => hown13.small y hy) HF.out (.inr (by show c ≠ 0; simpa using hcn)) (by rw [List.length_append, HSZ.out]; simp) (fun _ => by rw [List.take_append_of_le_length (by rw [HSZ.out]; omega)])
  clear hrun12 hrun13 hown12 hown13 hgr12 hgr13 T12 T13 z0 z4
  go_upto_region 30 with (first | (clear mm6; at_builtin; refine wpList_append_known rfl _ _ 28 rfl _ _ rfl rfl _ w12 HRUN12.out ?_; have mm7 := hid True.intro) | (clear mm7; at_builtin; refine wpList_append_known rfl _ _ 28 rfl _ _ rfl rfl _ w13 HRUN13.out ?_; have mm8 := hid True.intro) | ((with_reducible refine ld_arm HLD15.out ?_ ?_); (· rfl)) | (clear mm8; go_at_call 11; refine (panswer_none x a13 _ c13 _ _ HO13.out.read (by have := HKL.out; omega) HH.out).mono ?_; rintro e w14 ⟨rfl, hb14⟩; rw [← HZZ.out]; obtain ⟨w15, hst15, hx15, hb15⟩ := store_new w14 (Z := Z) (t := 30) rfl HZO.out; have HX15 := hid ((HX13.out.later hb14).later hb15); have HB15 := hid (below_call (below_call HB13.out hb14) hb15); have z0 : w15.cell? ⟨w.heap.size + 1, 0, none⟩ = some (.int .i64 c) := HX15.out.cell 0 HMF.out.1; have z4 : w15.cell? ⟨w.heap.size + 1, 4, none⟩ = some (.slice none 0 0) := HX15.out.cell 4 HMF.out.2; have z5 := (HX15.out.there 5 (by omega)).1; have f0 : w15.frozen? ⟨w.heap.size + 1, 0, none⟩ = false := (HX15.out.there 0 (by omega)).2; have f5 : w15.frozen? ⟨w.heap.size + 1, 5, none⟩ = false := (HX15.out.there 5 (by omega)).2; obtain ⟨v5, z5⟩ := Option.isSome_iff_exists.1 z5; have z5 : w15.cell? ⟨w.heap.size + 1, 5, none⟩ = some v5 := z5; have HLD15 := hid (ld30 (Bx.putq (Bx.putq HX15.out (j := 0) (by omega) (.int .i64 7)) (j := 5) (by simp; omega) (.int .i64 1)).range (by simp [hml])); clear hb14 hb15 hx15; have mm9 := hid True.intro) | (clear mm9; go_at_call 10; refine (answer_bad x ((M.set 0 (.int .i64 7)).set 5 (.int .i64 1)) ⟨7, (rpz c).obj, (rpz c).hi, (rpz c).lo, (rpz c).data, 1⟩ _ (HMS.out.later ((HB15.out.setCell (Nat.le_succ _) _).setCell (Nat.le_succ _) _)) (by simp [rfm, tnB])).mono ?_; rintro e w16 ⟨rfl, hb16⟩; have HB16 := hid (below_call ((HB15.out.setCell (p := ⟨w.heap.size + 1, 0, none⟩) (Nat.le_succ _) _).setCell (p := ⟨w.heap.size + 1, 5, none⟩) (Nat.le_succ _) _) hb16); clear hb16; have mn0 := hid True.intro) | (clear mn0; go_at_call 10; refine (answer_bad 0 Z (rpz 0) _ (by rw [HZZ.out]; exact rzq _) rfl).mono ?_; rintro e w17 ⟨rfl, hb17⟩; have HB17 := hid (below_call HB16.out hb17); clear hb17; have mn1 := hid True.intro))
  clear hz hZ0
  go_wp2_with (first | (go_at_call 10; refine (answer_bad 11 (rC (rpz 7) Sl.nil) (rpz 7) _ ⟨Sl.nil, rfl, row_nil _, by simp [rpz], by simp [rpz]⟩ rfl).mono ?_; rintro e w18 ⟨rfl, hb18⟩; have HB18 := hid (below_call HB17.out hb18); clear hb18))
  go_ret
  exact ⟨rfl, HB18.out⟩
set_option maxRecDepth 100000 in
set_option maxHeartbeats 8000000 in
theorem rrNB (op code obj number cut : Int) (hi lo : Nat) (da : Option Addr) (dn dc : Nat) (D : List Nat) (w : World) (hD : Row w da dn dc D) (h1 : hi < 18446744073709551616) (h2 : lo < 18446744073709551616) (q c : Int) (hq : op % 10 = q) (hx : IntKind.i64.wrap (1 + q) = 5) (hc : code % 65536 = c) (hcn : (c == 0) = false) (k : Nat) (hk : cut % (2 : Int) = (k : Int)) (hkl : k < 2) (hf : rfm 5 (rpz c) = true) (hz : (rly 5 (rpz c)).length = 2) :
    Calls Try.prog 3 #[.int .i64 op, .agg #[.int .i64 code, .int .i64 obj, .int .u64 (hi : Int), .int .u64 (lo : Int), .slice da dn dc, .int .i64 number], .int .i64 cut] w fun e w' => e = .returned (.bool true) ∧ Below w.heap.size w w' := by
  have HQ := hid hq
  have HC := hid hc
  have HK := hid hk
  have HKL := hid hkl
  have HF := hid hf
  have HSZ := hid hz
  have HDD := hid hD
  have HPS := hid (psr_lay hf (r := (rpz c)) (by first | exact h1 | (show (0 : Nat) < _; omega)) (by first | exact h2 | (show (0 : Nat) < _; omega)))
  clear hq hc hk hkl hf hz hD
  have mk0 := hid True.intro
  go_enter Try.func3, Try.ntmps3
  go_upto_region 16 with (first | (clear mk0; go_at_call 9; refine (into_is op 10 _ (by omega) (by omega) HQ.out).mono ?_; rintro e w9 ⟨rfl, hw9⟩; obtain rfl := hw9.symm; have mk1 := hid True.intro) | (clear mk1; go_at_call 9; refine (into_is code 65536 _ (by omega) (by omega) HC.out).mono ?_; rintro e w9 ⟨rfl, hw9⟩; obtain rfl := hw9.symm; have mk2 := hid True.intro))
  have X3 : Bx ((w.alloc (Obj.cells #[.int .i64 code, .int .i64 obj, .int .u64 (hi : Int), .int .u64 (lo : Int), .slice da dn dc, .int .i64 number] 30)).alloc (Obj.cells #[.int .i64 c, .int .i64 0, .int .u64 0, .int .u64 0, .slice none 0 0, .int .i64 0] 30)) (w.heap.size + 1) [.int .i64 c, .int .i64 0, .int .u64 0, .int .u64 0, .slice none 0 0, .int .i64 0] := by (have := Bx.new (w.alloc (Obj.cells #[.int .i64 code, .int .i64 obj, .int .u64 (hi : Int), .int .u64 (lo : Int), .slice da dn dc, .int .i64 number] 30)) [.int .i64 c, .int .i64 0, .int .u64 0, .int .u64 0, .slice none 0 0, .int .i64 0] 30; simp at this; exact this)
  have B3 : Below w.heap.size w ((w.alloc (Obj.cells #[.int .i64 code, .int .i64 obj, .int .u64 (hi : Int), .int .u64 (lo : Int), .slice da dn dc, .int .i64 number] 30)).alloc (Obj.cells #[.int .i64 c, .int .i64 0, .int .u64 0, .int .u64 0, .slice none 0 0, .int .i64 0] 30)) := below2 _ _ _
  generalize ((w.alloc (Obj.cells #[.int .i64 code, .int .i64 obj, .int .u64 (hi : Int), .int .u64 (lo : Int), .slice da dn dc, .int .i64 number] 30)).alloc (Obj.cells #[.int .i64 c, .int .i64 0, .int .u64 0, .int .u64 0, .slice none 0 0, .int .i64 0] 30)) = w3 at X3 B3 ⊢
  have HR0 : Hid (Rr w [.int .i64 c, .int .i64 0, .int .u64 0, .int .u64 0, .slice none 0 0, .int .i64 0] (rpz c)) := ⟨Sl.nil, rfl, row_nil _, by simp [rpz], by simp [rpz]⟩
  obtain ⟨M, hM⟩ : ∃ M : List Value, M = [.int .i64 c, .int .i64 0, .int .u64 0, .int .u64 0, .slice none 0 0, .int .i64 0] := ⟨_, rfl⟩
  have HMF : Hid (M[0]? = some (.int .i64 c) ∧ M[4]? = some (.slice none 0 0)) := by unfold Hid; rw [hM]; exact ⟨rfl, rfl⟩
  have HMS : Hid (Rr w ((M.set 0 (.int .i64 7)).set 5 (.int .i64 1)) ⟨7, (rpz c).obj, (rpz c).hi, (rpz c).lo, (rpz c).data, 1⟩) := by
    unfold Hid
    obtain ⟨d, e, h5, h6, h7⟩ := HR0.out.ex
    rw [hM, e]
    exact ⟨d, rfl, h5, h6, h7⟩
  rw [← hM] at X3 HR0
  have hml : M.length = 6 := by rw [hM]; rfl
  clear hM
  obtain ⟨Z, hZl, hZo, hZz, hz⟩ := zero30
  have hZ0 : (Z.toArray = #[]) = False := by simp; intro h; rw [h] at hZl; simp at hZl
  have HZZ := hid hZz
  have HZO := hid hZo
  have HLD3 := hid (ld30 X3.range hml)
  have HX3 := hid X3
  have HB3 := hid B3
  clear X3 B3 hZz hZo
  have mm0 := hid True.intro
  go_upto_region 21 with (first | ((with_reducible refine ld_armg HLDL.out ?_ ?_ ?_); (· rfl); (· rfl)) | ((with_reducible refine ld_armg HLDM.out ?_ ?_ ?_); (· rfl); (· rfl)) | ((with_reducible refine ld_arm HLD3.out ?_ ?_); (· rfl)) | (clear mm0; go_at_call 10; refine (answer_ok 5 M (rpz c) _ (HR0.out.later HB3.out) HF.out).mono ?_; rintro e w4 ⟨a4, n4, c4, rfl, hown4, hb4⟩; have hn4 := hown4.len; rw [HSZ.out] at hn4; obtain rfl := hn4; have HO4 := hid hown4; have HX4 := hid (HX3.out.later hb4); have HB4 := hid (below_call HB3.out hb4); clear hown4 hb4; have mm1 := hid True.intro) | (clear mm1; go_at_call 11; refine (panswer_some 5 a4 2 c4 (rly 5 (rpz c)) _ HO4.out.read (by have := HKL.out; omega) HPS.out).mono ?_; rintro e w5 ⟨L, rfl, hc5, hb5⟩; have hll := hc5.len; obtain ⟨w6, hst6, hx6, hb6⟩ := store_new w5 (Z := Z) (t := 30) (hll.trans hZl.symm) hc5.one; have HXL6 := hid hx6; have HRL6 := hid (hc5.rr.later hb6); have HX6 := hid ((HX4.out.later hb5).later hb6); have HO6 := hid ((HO4.out.later hb5).later hb6); have HB6 := hid (below_call (below_call HB4.out hb5) hb6); clear hc5 hb5 hb6 hx6; have mm2 := hid True.intro) | (clear mm2; go_at_call 12; refine (known_any _).mono ?_; rintro e w7 ⟨rfl, hb7⟩; have HLDL := hid (ld30 (HXL6.out.later hb7).range hll); have HLDM := hid (ld30 (HX6.out.later hb7).range hml); have HRL7 := hid (HRL6.out.later hb7); have HX7 := hid (HX6.out.later hb7); have HO7 := hid (HO6.out.later hb7); have HB7 := hid (below_call HB6.out hb7); clear hb7; have mm3 := hid True.intro) | (clear mm3; go_at_call 13; refine (sameQ L M (rpz c) _ HRL7.out (HR0.out.later HB7.out)).mono ?_; rintro e w8 ⟨rfl, hb8⟩; have HX8 := hid (HX7.out.later hb8); have HO8 := hid (HO7.out.later hb8); have HB8 := hid (below_call HB7.out hb8); clear hb8; have mm4 := hid True.intro) | (clear mm4; go_at_call 9; refine (into_is cut 2 _ (by omega) (by omega) HK.out).mono ?_; rintro e w9 ⟨rfl, hw9⟩; obtain rfl := hw9.symm; have mm5 := hid True.intro))
  have hsl := slice_hi a4 2 c4 k (by have := HO8.out.read.cap_; have := HKL.out; omega)
  have HTK := hid (HO8.out.read.take k (by have := HKL.out; omega) (HO8.out.read.none_len k (by have := HKL.out; omega)))
  have HG : Hid (psR 5 ((rly 5 (rpz c)).take k) = none) := psr_not (o := rpz c) (fun y hy => HO8.out.small y (List.mem_of_mem_take hy)) HF.out (.inr (by show c ≠ 0; simpa using hcn)) (by rw [List.length_take, HSZ.out]; have := HKL.out; omega) (fun _ => by rw [List.take_take]; congr 1; rename_i h; rw [List.length_take] at h; omega)
  go_upto_region 23 with (first | (clear mm5; go_at_call 11; refine (panswer_none 5 a4 k c4 _ _ HTK.out (by have := HKL.out; omega) HG.out).mono ?_; rintro e w10 ⟨rfl, hb10⟩; rw [← HZZ.out]; obtain ⟨w11, hst11, hx11, hb11⟩ := store_new w10 (Z := Z) (t := 30) rfl HZO.out; have HX11 := hid ((HX8.out.later hb10).later hb11); have HO11 := hid ((HO8.out.later hb10).later hb11); have HB11 := hid (below_call (below_call HB8.out hb10) hb11); have z0 := HX11.out.cell 0 HMF.out.1; have z4 := HX11.out.cell 4 HMF.out.2; clear hb10 hb11 hx11; have mm6 := hid True.intro))
  obtain ⟨a12, c12, w12, hrun12, hown12, hgr12⟩ := append_any (Own.empty w11) (HO11.out.read.alloc (Obj.cells #[] 5)) (by simp) (by have := HKL.out; omega)
  rw [Nat.zero_add, List.nil_append] at hown12
  rw [Nat.zero_add] at hrun12
  have T12 : Below w11.heap.size w11 w12 := But.below (below1 w11 _) hgr12.but (fun j hj => (Own.empty w11).blk j hj)
  obtain ⟨a13, c13, w13, hrun13, hown13, hgr13⟩ := append_byte (b := 0) hown12 T12.size (by have := HKL.out; omega) (by omega)
  have T13 : Below w11.heap.size w11 w13 := But.below T12 hgr13.but (fun j hj => hown12.blk j hj)
  have HRUN12 := hid hrun12
  have HRUN13 := hid hrun13
  have HO13 := hid hown13
  have HX13 := hid (HX11.out.later T13)
  have HB13 := hid (below_call HB11.out T13)
  have HH : Hid (psR 5 (rly 5 (rpz c) ++ [0]) = none) := psr_not (o := rpz c) (fun y hy => hown13.small y hy) HF.out (.inr (by show c ≠ 0; simpa using hcn)) (by rw [List.length_append, HSZ.out]; simp) (fun _ => by rw [List.take_append_of_le_length (by rw [HSZ.out]; omega)])
  clear hrun12 hrun13 hown12 hown13 hgr12 hgr13 T12 T13 z0 z4
  go_upto_region 30 with (first | (clear mm6; at_builtin; refine wpList_append_known rfl _ _ 28 rfl _ _ rfl rfl _ w12 HRUN12.out ?_; have mm7 := hid True.intro) | (clear mm7; at_builtin; refine wpList_append_known rfl _ _ 28 rfl _ _ rfl rfl _ w13 HRUN13.out ?_; have mm8 := hid True.intro) | ((with_reducible refine ld_arm HLD15.out ?_ ?_); (· rfl)) | (clear mm8; go_at_call 11; refine (panswer_none 5 a13 _ c13 _ _ HO13.out.read (by have := HKL.out; omega) HH.out).mono ?_; rintro e w14 ⟨rfl, hb14⟩; rw [← HZZ.out]; obtain ⟨w15, hst15, hx15, hb15⟩ := store_new w14 (Z := Z) (t := 30) rfl HZO.out; have HX15 := hid ((HX13.out.later hb14).later hb15); have HB15 := hid (below_call (below_call HB13.out hb14) hb15); have z0 : w15.cell? ⟨w.heap.size + 1, 0, none⟩ = some (.int .i64 c) := HX15.out.cell 0 HMF.out.1; have z4 : w15.cell? ⟨w.heap.size + 1, 4, none⟩ = some (.slice none 0 0) := HX15.out.cell 4 HMF.out.2; have z5 := (HX15.out.there 5 (by omega)).1; have f0 : w15.frozen? ⟨w.heap.size + 1, 0, none⟩ = false := (HX15.out.there 0 (by omega)).2; have f5 : w15.frozen? ⟨w.heap.size + 1, 5, none⟩ = false := (HX15.out.there 5 (by omega)).2; obtain ⟨v5, z5⟩ := Option.isSome_iff_exists.1 z5; have z5 : w15.cell? ⟨w.heap.size + 1, 5, none⟩ = some v5 := z5; have HLD15 := hid (ld30 (Bx.putq (Bx.putq HX15.out (j := 0) (by omega) (.int .i64 7)) (j := 5) (by simp; omega) (.int .i64 1)).range (by simp [hml])); clear hb14 hb15 hx15; have mm9 := hid True.intro) | (clear mm9; go_at_call 10; refine (answer_bad 5 ((M.set 0 (.int .i64 7)).set 5 (.int .i64 1)) ⟨7, (rpz c).obj, (rpz c).hi, (rpz c).lo, (rpz c).data, 1⟩ _ (HMS.out.later ((HB15.out.setCell (Nat.le_succ _) _).setCell (Nat.le_succ _) _)) (by simp [rfm, tnB])).mono ?_; rintro e w16 ⟨rfl, hb16⟩; have HB16 := hid (below_call ((HB15.out.setCell (p := ⟨w.heap.size + 1, 0, none⟩) (Nat.le_succ _) _).setCell (p := ⟨w.heap.size + 1, 5, none⟩) (Nat.le_succ _) _) hb16); clear hb16; have mn0 := hid True.intro) | (clear mn0; go_at_call 10; refine (answer_bad 0 Z (rpz 0) _ (by rw [HZZ.out]; exact rzq _) rfl).mono ?_; rintro e w17 ⟨rfl, hb17⟩; have HB17 := hid (below_call HB16.out hb17); clear hb17; have mn1 := hid True.intro))
  clear hz hZ0
  go_wp2_with (first | (go_at_call 10; refine (answer_bad 11 (rC (rpz 7) Sl.nil) (rpz 7) _ ⟨Sl.nil, rfl, row_nil _, by simp [rpz], by simp [rpz]⟩ rfl).mono ?_; rintro e w18 ⟨rfl, hb18⟩; have HB18 := hid (below_call HB17.out hb18); clear hb18))
  go_ret
  exact ⟨rfl, HB18.out⟩
set_option maxRecDepth 100000 in
set_option maxHeartbeats 8000000 in
theorem rr9 (op code obj number cut : Int) (hi lo : Nat) (da : Option Addr) (dn dc : Nat) (D : List Nat) (w : World) (hD : Row w da dn dc D) (h1 : hi < 18446744073709551616) (h2 : lo < 18446744073709551616) (q v : Int) (hq : op % 10 = q) (hx : IntKind.i64.wrap (1 + q) = 9) (hc : code % 65536 = 0) (hn : number % 65536 = v) (k : Nat) (hk : cut % (4 : Int) = (k : Int)) (hkl : k < 4) (hf : rfm 9 (⟨0, 0, 0, 0, [], v⟩ : Rp) = true) (hz : (rly 9 (⟨0, 0, 0, 0, [], v⟩ : Rp)).length = 4) :
    Calls Try.prog 3 #[.int .i64 op, .agg #[.int .i64 code, .int .i64 obj, .int .u64 (hi : Int), .int .u64 (lo : Int), .slice da dn dc, .int .i64 number], .int .i64 cut] w fun e w' => e = .returned (.bool true) ∧ Below w.heap.size w w' := by
  have HQ := hid hq
  have HC := hid hc
  have HK := hid hk
  have HKL := hid hkl
  have HF := hid hf
  have HSZ := hid hz
  have HDD := hid hD
  have HPS := hid (psr_lay hf (r := (⟨0, 0, 0, 0, [], v⟩ : Rp)) (by first | exact h1 | (show (0 : Nat) < _; omega)) (by first | exact h2 | (show (0 : Nat) < _; omega)))
  clear hq hc hk hkl hf hz hD
  have HN := hid hn
  clear hn
  have mk0 := hid True.intro
  go_enter Try.func3, Try.ntmps3
  go_upto_region 16 with (first | (clear mk0; go_at_call 9; refine (into_is op 10 _ (by omega) (by omega) HQ.out).mono ?_; rintro e w9 ⟨rfl, hw9⟩; obtain rfl := hw9.symm; have mk1 := hid True.intro) | (clear mk1; go_at_call 9; refine (into_is code 65536 _ (by omega) (by omega) HC.out).mono ?_; rintro e w9 ⟨rfl, hw9⟩; obtain rfl := hw9.symm; have mk2 := hid True.intro) | (clear mk2; go_at_call 9; refine (into_is number 65536 _ (by omega) (by omega) HN.out).mono ?_; rintro e w9 ⟨rfl, hw9⟩; obtain rfl := hw9.symm; have mk3 := hid True.intro))
  have X3 : Bx ((w.alloc (Obj.cells #[.int .i64 code, .int .i64 obj, .int .u64 (hi : Int), .int .u64 (lo : Int), .slice da dn dc, .int .i64 number] 30)).alloc (Obj.cells #[.int .i64 0, .int .i64 0, .int .u64 0, .int .u64 0, .slice none 0 0, .int .i64 v] 30)) (w.heap.size + 1) [.int .i64 0, .int .i64 0, .int .u64 0, .int .u64 0, .slice none 0 0, .int .i64 v] := by (have := Bx.new (w.alloc (Obj.cells #[.int .i64 code, .int .i64 obj, .int .u64 (hi : Int), .int .u64 (lo : Int), .slice da dn dc, .int .i64 number] 30)) [.int .i64 0, .int .i64 0, .int .u64 0, .int .u64 0, .slice none 0 0, .int .i64 v] 30; simp at this; exact this)
  have B3 : Below w.heap.size w ((w.alloc (Obj.cells #[.int .i64 code, .int .i64 obj, .int .u64 (hi : Int), .int .u64 (lo : Int), .slice da dn dc, .int .i64 number] 30)).alloc (Obj.cells #[.int .i64 0, .int .i64 0, .int .u64 0, .int .u64 0, .slice none 0 0, .int .i64 v] 30)) := below2 _ _ _
  generalize ((w.alloc (Obj.cells #[.int .i64 code, .int .i64 obj, .int .u64 (hi : Int), .int .u64 (lo : Int), .slice da dn dc, .int .i64 number] 30)).alloc (Obj.cells #[.int .i64 0, .int .i64 0, .int .u64 0, .int .u64 0, .slice none 0 0, .int .i64 v] 30)) = w3 at X3 B3 ⊢
  have HR0 : Hid (Rr w [.int .i64 0, .int .i64 0, .int .u64 0, .int .u64 0, .slice none 0 0, .int .i64 v] (⟨0, 0, 0, 0, [], v⟩ : Rp)) := ⟨Sl.nil, rfl, row_nil _, by simp [rpz], by simp [rpz]⟩
  obtain ⟨M, hM⟩ : ∃ M : List Value, M = [.int .i64 0, .int .i64 0, .int .u64 0, .int .u64 0, .slice none 0 0, .int .i64 v] := ⟨_, rfl⟩
  have HMF : Hid (M[0]? = some (.int .i64 0) ∧ M[4]? = some (.slice none 0 0)) := by unfold Hid; rw [hM]; exact ⟨rfl, rfl⟩
  have HMS : Hid (Rr w ((M.set 0 (.int .i64 7)).set 5 (.int .i64 1)) ⟨7, (⟨0, 0, 0, 0, [], v⟩ : Rp).obj, (⟨0, 0, 0, 0, [], v⟩ : Rp).hi, (⟨0, 0, 0, 0, [], v⟩ : Rp).lo, (⟨0, 0, 0, 0, [], v⟩ : Rp).data, 1⟩) := by
    unfold Hid
    obtain ⟨d, e, h5, h6, h7⟩ := HR0.out.ex
    rw [hM, e]
    exact ⟨d, rfl, h5, h6, h7⟩
  rw [← hM] at X3 HR0
  have hml : M.length = 6 := by rw [hM]; rfl
  clear hM
  obtain ⟨Z, hZl, hZo, hZz, hz⟩ := zero30
  have hZ0 : (Z.toArray = #[]) = False := by simp; intro h; rw [h] at hZl; simp at hZl
  have HZZ := hid hZz
  have HZO := hid hZo
  have HLD3 := hid (ld30 X3.range hml)
  have HX3 := hid X3
  have HB3 := hid B3
  clear X3 B3 hZz hZo
  have mm0 := hid True.intro
  go_upto_region 21 with (first | ((with_reducible refine ld_armg HLDL.out ?_ ?_ ?_); (· rfl); (· rfl)) | ((with_reducible refine ld_armg HLDM.out ?_ ?_ ?_); (· rfl); (· rfl)) | ((with_reducible refine ld_arm HLD3.out ?_ ?_); (· rfl)) | (clear mm0; go_at_call 10; refine (answer_ok 9 M (⟨0, 0, 0, 0, [], v⟩ : Rp) _ (HR0.out.later HB3.out) HF.out).mono ?_; rintro e w4 ⟨a4, n4, c4, rfl, hown4, hb4⟩; have hn4 := hown4.len; rw [HSZ.out] at hn4; obtain rfl := hn4; have HO4 := hid hown4; have HX4 := hid (HX3.out.later hb4); have HB4 := hid (below_call HB3.out hb4); clear hown4 hb4; have mm1 := hid True.intro) | (clear mm1; go_at_call 11; refine (panswer_some 9 a4 4 c4 (rly 9 (⟨0, 0, 0, 0, [], v⟩ : Rp)) _ HO4.out.read (by have := HKL.out; omega) HPS.out).mono ?_; rintro e w5 ⟨L, rfl, hc5, hb5⟩; have hll := hc5.len; obtain ⟨w6, hst6, hx6, hb6⟩ := store_new w5 (Z := Z) (t := 30) (hll.trans hZl.symm) hc5.one; have HXL6 := hid hx6; have HRL6 := hid (hc5.rr.later hb6); have HX6 := hid ((HX4.out.later hb5).later hb6); have HO6 := hid ((HO4.out.later hb5).later hb6); have HB6 := hid (below_call (below_call HB4.out hb5) hb6); clear hc5 hb5 hb6 hx6; have mm2 := hid True.intro) | (clear mm2; go_at_call 12; refine (known_any _).mono ?_; rintro e w7 ⟨rfl, hb7⟩; have HLDL := hid (ld30 (HXL6.out.later hb7).range hll); have HLDM := hid (ld30 (HX6.out.later hb7).range hml); have HRL7 := hid (HRL6.out.later hb7); have HX7 := hid (HX6.out.later hb7); have HO7 := hid (HO6.out.later hb7); have HB7 := hid (below_call HB6.out hb7); clear hb7; have mm3 := hid True.intro) | (clear mm3; go_at_call 13; refine (sameQ L M (⟨0, 0, 0, 0, [], v⟩ : Rp) _ HRL7.out (HR0.out.later HB7.out)).mono ?_; rintro e w8 ⟨rfl, hb8⟩; have HX8 := hid (HX7.out.later hb8); have HO8 := hid (HO7.out.later hb8); have HB8 := hid (below_call HB7.out hb8); clear hb8; have mm4 := hid True.intro) | (clear mm4; go_at_call 9; refine (into_is cut 4 _ (by omega) (by omega) HK.out).mono ?_; rintro e w9 ⟨rfl, hw9⟩; obtain rfl := hw9.symm; have mm5 := hid True.intro))
  have hsl := slice_hi a4 4 c4 k (by have := HO8.out.read.cap_; have := HKL.out; omega)
  have HTK := hid (HO8.out.read.take k (by have := HKL.out; omega) (HO8.out.read.none_len k (by have := HKL.out; omega)))
  have HG : Hid (psR 9 ((rly 9 (⟨0, 0, 0, 0, [], v⟩ : Rp)).take k) = none) := psr_not (o := (⟨0, 0, 0, 0, [], v⟩ : Rp)) (fun y hy => HO8.out.small y (List.mem_of_mem_take hy)) HF.out (.inl (by omega)) (by rw [List.length_take, HSZ.out]; have := HKL.out; omega) (fun _ => by rw [List.take_take]; congr 1; rename_i h; rw [List.length_take] at h; omega)
  go_upto_region 23 with (first | (clear mm5; go_at_call 11; refine (panswer_none 9 a4 k c4 _ _ HTK.out (by have := HKL.out; omega) HG.out).mono ?_; rintro e w10 ⟨rfl, hb10⟩; rw [← HZZ.out]; obtain ⟨w11, hst11, hx11, hb11⟩ := store_new w10 (Z := Z) (t := 30) rfl HZO.out; have HX11 := hid ((HX8.out.later hb10).later hb11); have HO11 := hid ((HO8.out.later hb10).later hb11); have HB11 := hid (below_call (below_call HB8.out hb10) hb11); have z0 := HX11.out.cell 0 HMF.out.1; have z4 := HX11.out.cell 4 HMF.out.2; clear hb10 hb11 hx11; have mm6 := hid True.intro))
  obtain ⟨a12, c12, w12, hrun12, hown12, hgr12⟩ := append_any (Own.empty w11) (HO11.out.read.alloc (Obj.cells #[] 5)) (by simp) (by have := HKL.out; omega)
  rw [Nat.zero_add, List.nil_append] at hown12
  rw [Nat.zero_add] at hrun12
  have T12 : Below w11.heap.size w11 w12 := But.below (below1 w11 _) hgr12.but (fun j hj => (Own.empty w11).blk j hj)
  obtain ⟨a13, c13, w13, hrun13, hown13, hgr13⟩ := append_byte (b := 0) hown12 T12.size (by have := HKL.out; omega) (by omega)
  have T13 : Below w11.heap.size w11 w13 := But.below T12 hgr13.but (fun j hj => hown12.blk j hj)
  have HRUN12 := hid hrun12
  have HRUN13 := hid hrun13
  have HO13 := hid hown13
  have HX13 := hid (HX11.out.later T13)
  have HB13 := hid (below_call HB11.out T13)
  have HH : Hid (psR 9 (rly 9 (⟨0, 0, 0, 0, [], v⟩ : Rp) ++ [0]) = none) := psr_not (o := (⟨0, 0, 0, 0, [], v⟩ : Rp)) (fun y hy => hown13.small y hy) HF.out (.inl (by omega)) (by rw [List.length_append, HSZ.out]; simp) (fun _ => by rw [List.take_append_of_le_length (by rw [HSZ.out]; omega)])
  clear hrun12 hrun13 hown12 hown13 hgr12 hgr13 T12 T13 z0 z4
  go_upto_region 30 with (first | (clear mm6; at_builtin; refine wpList_append_known rfl _ _ 28 rfl _ _ rfl rfl _ w12 HRUN12.out ?_; have mm7 := hid True.intro) | (clear mm7; at_builtin; refine wpList_append_known rfl _ _ 28 rfl _ _ rfl rfl _ w13 HRUN13.out ?_; have mm8 := hid True.intro) | ((with_reducible refine ld_arm HLD15.out ?_ ?_); (· rfl)) | (clear mm8; go_at_call 11; refine (panswer_none 9 a13 _ c13 _ _ HO13.out.read (by have := HKL.out; omega) HH.out).mono ?_; rintro e w14 ⟨rfl, hb14⟩; rw [← HZZ.out]; obtain ⟨w15, hst15, hx15, hb15⟩ := store_new w14 (Z := Z) (t := 30) rfl HZO.out; have HX15 := hid ((HX13.out.later hb14).later hb15); have HB15 := hid (below_call (below_call HB13.out hb14) hb15); have z0 : w15.cell? ⟨w.heap.size + 1, 0, none⟩ = some (.int .i64 0) := HX15.out.cell 0 HMF.out.1; have z4 : w15.cell? ⟨w.heap.size + 1, 4, none⟩ = some (.slice none 0 0) := HX15.out.cell 4 HMF.out.2; have z5 := (HX15.out.there 5 (by omega)).1; have f0 : w15.frozen? ⟨w.heap.size + 1, 0, none⟩ = false := (HX15.out.there 0 (by omega)).2; have f5 : w15.frozen? ⟨w.heap.size + 1, 5, none⟩ = false := (HX15.out.there 5 (by omega)).2; obtain ⟨v5, z5⟩ := Option.isSome_iff_exists.1 z5; have z5 : w15.cell? ⟨w.heap.size + 1, 5, none⟩ = some v5 := z5; have HLD15 := hid (ld30 (Bx.putq (Bx.putq HX15.out (j := 0) (by omega) (.int .i64 7)) (j := 5) (by simp; omega) (.int .i64 1)).range (by simp [hml])); clear hb14 hb15 hx15; have mm9 := hid True.intro) | (clear mm9; go_at_call 10; refine (answer_bad 9 ((M.set 0 (.int .i64 7)).set 5 (.int .i64 1)) ⟨7, (⟨0, 0, 0, 0, [], v⟩ : Rp).obj, (⟨0, 0, 0, 0, [], v⟩ : Rp).hi, (⟨0, 0, 0, 0, [], v⟩ : Rp).lo, (⟨0, 0, 0, 0, [], v⟩ : Rp).data, 1⟩ _ (HMS.out.later ((HB15.out.setCell (Nat.le_succ _) _).setCell (Nat.le_succ _) _)) (by simp [rfm, tnB])).mono ?_; rintro e w16 ⟨rfl, hb16⟩; have HB16 := hid (below_call ((HB15.out.setCell (p := ⟨w.heap.size + 1, 0, none⟩) (Nat.le_succ _) _).setCell (p := ⟨w.heap.size + 1, 5, none⟩) (Nat.le_succ _) _) hb16); clear hb16; have mn0 := hid True.intro) | (clear mn0; go_at_call 10; refine (answer_bad 0 Z (rpz 0) _ (by rw [HZZ.out]; exact rzq _) rfl).mono ?_; rintro e w17 ⟨rfl, hb17⟩; have HB17 := hid (below_call HB16.out hb17); clear hb17; have mn1 := hid True.intro))
  clear hz hZ0
  go_wp2_with (first | (go_at_call 10; refine (answer_bad 11 (rC (rpz 7) Sl.nil) (rpz 7) _ ⟨Sl.nil, rfl, row_nil _, by simp [rpz], by simp [rpz]⟩ rfl).mono ?_; rintro e w18 ⟨rfl, hb18⟩; have HB18 := hid (below_call HB17.out hb18); clear hb18))
  go_ret
  exact ⟨rfl, HB18.out⟩
end Go.Proofs.Ytaffgoacbiedlaa
