import Derived.Test.YticgammbjcdobaaS1
import Derived.Test.YticgammbjcdobaaK1
namespace Go.Proofs.Yticgammbjcdobaa
open Go.RowKit
set_option linter.unusedVariables false
set_option linter.unusedSimpArgs false
theorem putCap_ok (o hi lo : Nat) (w : World) (ho : o ≤ 4611686018427387904) (h1 : hi < 18446744073709551616) (h2 : lo < 18446744073709551616) :
    Calls Try.prog 83 #[.slice none 0 0, .agg #[.int .i64 (o : Int), .int .u64 (hi : Int), .int .u64 (lo : Int)]] w fun e w' => ∃ a n c, e = .returned (.tuple #[.slice a n c, .int .i64 0]) ∧ Own w' w.heap.size a n c (leL o 8 ++ leL lo 8 ++ leL hi 8) ∧ Below w.heap.size w w' := by
  refine (putCap_any none 0 0 [] (o : Int) hi lo w h1 h2 (row_nil w) (by omega)).mono ?_
  have e1 : pcE (o : Int) = 0 := by unfold pcE; rw [if_neg (by omega)]
  have e2 : pcL [] (o : Int) hi lo = leL o 8 ++ leL lo 8 ++ leL hi 8 := by unfold pcL; rw [if_pos e1]; rfl
  rw [e1, e2]
  exact fun _ _ h => h
set_option maxRecDepth 100000 in
set_option maxHeartbeats 4000000 in
theorem layTold_any (op : Int) (L : List Value) (r : Rp) (w0 w : World) (h : Rr w0 L r) (hb0 : Below w0.heap.size w0 w) (hob : wi r.obj 0 4611686018427387904 = true) (hnu : wi r.number 0 65535 = true) :
    Calls Try.prog 74 #[.int .i64 op, .agg L.toArray] w fun e w' => ∃ a n c, e = .returned (.slice a n c) ∧ Lr w0 w' a n c (told op r) ∧ Below w.heap.size w w' := by
  have hob := wi_iff.1 hob
  have hnu := wi_iff.1 hnu
  have X1 := Bx.new w L 39
  obtain ⟨⟨da, dn, dc⟩, rfl, hrow, h1, h2⟩ := h.ex
  obtain ⟨code, obj, hi, lo, data, number⟩ := r
  simp only at hob hnu h1 h2
  obtain ⟨o, rfl⟩ : ∃ o : Nat, obj = (o : Int) := ⟨obj.toNat, by omega⟩
  obtain ⟨m, rfl⟩ : ∃ m : Nat, number = (m : Int) := ⟨number.toNat, by omega⟩
  have HM : Hid (o ≤ 4611686018427387904 ∧ m < 65536 ∧ hi < 18446744073709551616 ∧ lo < 18446744073709551616) := ⟨by omega, by omega, h1, h2⟩
  have em : IntKind.u16.wrap (m : Int) = (m : Int) := by rw [IntKind.wrap_u16]; omega
  have hc1 := X1.cell 1 rfl
  have hc2 := X1.cell 2 rfl
  have hc3 := X1.cell 3 rfl
  have hc4 := X1.cell 4 rfl
  have hc5 := X1.cell 5 rfl
  have HR := hid hrow
  have HS := hid hb0.size
  clear X1 h hb0 hob hnu hrow h1 h2
  by_cases o1 : op = 1
  · subst o1
    go_enter Try.func74, Try.ntmps74
    go_wp2_with (first | (go_at_call 83; refine (putCap_ok o hi lo _ HM.out.1 HM.out.2.2.1 HM.out.2.2.2).mono ?_; rintro e w2 ⟨a2, n2, c2, rfl, hown, hb2⟩))
    go_ret
    exact ⟨_, _, _, rfl, .inr (by rw [told_c _ (by omega)]; exact hown.mono (by have := HS.out; simp; omega)), below_call (below1 _ _) hb2⟩
  have b1 : (op == 1) = false := by simpa using o1
  by_cases o3 : op = 3
  · subst o3
    go_enter Try.func74, Try.ntmps74
    go_wp2_with (first | (go_at_call 83; refine (putCap_ok o hi lo _ HM.out.1 HM.out.2.2.1 HM.out.2.2.2).mono ?_; rintro e w2 ⟨a2, n2, c2, rfl, hown, hb2⟩))
    go_ret
    exact ⟨_, _, _, rfl, .inr (by rw [told_c _ (by omega)]; exact hown.mono (by have := HS.out; simp; omega)), below_call (below1 _ _) hb2⟩
  have b3 : (op == 3) = false := by simpa using o3
  by_cases o5 : op = 5
  · subst o5
    go_enter Try.func74, Try.ntmps74
    go_wp2
    go_ret
    exact ⟨_, _, _, rfl, .inl (by rw [told_d _ rfl]; exact HR.out), below1 _ _⟩
  have b5 : (op == 5) = false := by simpa using o5
  by_cases o9 : op = 9
  · subst o9
    go_enter Try.func74, Try.ntmps74
    go_wp2_with (first | (go_at_call 72; refine (p16 m HM.out.2.1 _).mono ?_; rintro e w2 ⟨a2, c2, rfl, hown, hb2⟩))
    go_ret
    exact ⟨_, _, _, rfl, .inr (by rw [told_n _ rfl]; exact hown.mono (by have := HS.out; simp; omega)), below_call (below1 _ _) hb2⟩
  have b9 : (op == 9) = false := by simpa using o9
  have HT : Hid (told op ⟨code, (o : Int), hi, lo, data, (m : Int)⟩ = []) := told_0 _ (by omega) o5 o9
  clear o1 o3 o5 o9
  go_enter Try.func74, Try.ntmps74
  go_wp2
  go_ret
  exact ⟨none, 0, 0, rfl, .inr (by rw [HT.out]; exact Own.nil _ _), below1 _ _⟩
theorem told_len {op : Int} {r : Rp} (h : r.data.length ≤ 1024) : (told op r).length ≤ 1024 := by
  unfold told
  repeat' split
  all_goals (try simp only [leL_length, List.length_append, List.length_nil])
  all_goals omega
theorem rfm_in {op : Int} {r : Rp} (h : rfm op r = true) : 0 ≤ r.code ∧ r.code ≤ 65535 ∧ (r.code = 0 → wi r.obj 0 4611686018427387904 = true ∧ wi r.number 0 65535 = true ∧ r.data.length ≤ 1024) := by
  have h0 := h
  simp only [rfm, Bool.and_eq_true] at h
  have hc := wi_iff.1 h.1.2
  refine ⟨hc.1, hc.2, fun hz => ?_⟩
  rw [rfm_z hz] at h0
  simp only [Bool.and_eq_true, decide_eq_true_eq] at h0
  exact ⟨h0.2.1.1.1.2, h0.2.1.1.2, h0.2.1.2⟩
set_option maxRecDepth 100000 in
set_option maxHeartbeats 4000000 in
theorem layReply_any (op : Int) (L : List Value) (r : Rp) (w : World) (h : Rr w L r) (hf : rfm op r = true) :
    Calls Try.prog 58 #[.int .i64 op, .agg L.toArray] w fun e w' => ∃ a n c, e = .returned (.slice a n c) ∧ Own w' w.heap.size a n c (rly op r) ∧ Below w.heap.size w w' := by
  obtain ⟨hc0, hc1, hz⟩ := rfm_in hf
  obtain ⟨m, hm⟩ : ∃ m : Nat, r.code = (m : Int) := ⟨r.code.toNat, by omega⟩
  have em : IntKind.u16.wrap (m : Int) = (m : Int) := by rw [IntKind.wrap_u16]; omega
  have HM : Hid (m < 65536) := by unfold Hid; omega
  have X1 : Hid (Bx (w.alloc (Obj.cells L.toArray 39)) w.heap.size L) := Bx.new w L 39
  have HL0 : Hid (L[0]? = some (.int .i64 (m : Int))) := by unfold Hid; rw [← hm]; obtain ⟨d, rfl, _⟩ := h.ex; rfl
  have hcell := X1.out.cell 0 HL0.out
  have HLL := hid h.len
  have HH := hid h
  have HB1 : Hid (Below w.heap.size w (w.alloc (Obj.cells L.toArray 39))) := below1 _ _
  by_cases hm0 : m = 0
  · have HZ := hid (hz (by omega))
    have HY : Hid (rly op r = leL 0 2 ++ told op r) := rly_z (by omega)
    subst hm0
    have hT : (told op r).length ≤ 1024 := told_len HZ.out.2.2
    have HT := hid hT
    clear h hc0 hc1 hz hf hm hT
    go_enter Try.func58, Try.ntmps58
    go_wp2_with (first | ((with_reducible refine ld_arm HLD2.out ?_ ?_); (· rfl)) | (go_at_call 72; refine (p16 0 (by omega) _).mono ?_; rintro e w2 ⟨a2, c2, rfl, hown2, hb2⟩; have HX2 := hid (X1.out.later hb2); have hcell2 := HX2.out.cell 0 HL0.out; have HLD2 := hid (ld30 HX2.out.range HLL.out); have HO2 := hid (hown2.mono HB1.out.size); have HB2 := hid (below_call HB1.out hb2); clear hown2 hb2) | (go_at_call 74; refine (layTold_any op L r w _ HH.out HB2.out HZ.out.1 HZ.out.2.1).mono ?_; rintro e w3 ⟨a3, n3, c3, rfl, hlr, hb3⟩; have HB3 := hid (below_call HB2.out hb3); have HOR := hid (OR.two (.inr (HO2.out.later hb3)) hlr HB3.out); clear hlr hb3) | (go_at_call 73; refine (join_or HOR.out (below_call HB3.out (below1 _ _)) (by omega) (by omega) (by have := HT.out; simp [cat4, leL_length]; omega)).mono ?_; rintro e w4 ⟨a4, n4, c4, rfl, hown4, hb4⟩))
    go_ret
    exact ⟨_, _, _, rfl, by rw [HY.out]; simpa [cat4] using hown4.mono (by have := HB3.out.size; simp; omega), below_call (below_call HB3.out (below1 _ _)) hb4⟩
  · have HY : Hid (rly op r = leL m 2) := by unfold Hid; rw [rly_nz (by omega), hm]; rfl
    have bz : ((m : Int) != 0) = true := by simp; omega
    clear h hc0 hc1 hz hf hm hm0
    go_enter Try.func58, Try.ntmps58
    go_wp2_with (first | (go_at_call 72; refine (p16 m HM.out _).mono ?_; rintro e w2 ⟨a2, c2, rfl, hown2, hb2⟩; have hcell2 := (X1.out.later hb2).cell 0 HL0.out; have HO2 := hid (hown2.mono HB1.out.size); have HB2 := hid (below_call HB1.out hb2); clear hown2 hb2))
    go_ret
    exact ⟨_, _, _, rfl, by rw [HY.out]; exact HO2.out, HB2.out⟩
set_option maxRecDepth 100000 in
set_option maxHeartbeats 4000000 in
theorem answer_ok (op : Int) (L : List Value) (r : Rp) (w : World) (h : Rr w L r) (hf : rfm op r = true) :
    Calls Try.prog 52 #[.int .i64 op, .agg L.toArray] w fun e w' => ∃ a n c', e = .returned (.tuple #[.slice a n c', .int .i64 0]) ∧ Own w' w.heap.size a n c' (rly op r) ∧ Below w.heap.size w w' := by
  have X1 : Hid (Bx (w.alloc (Obj.cells L.toArray 39)) w.heap.size L) := Bx.new w L 39
  have HLD1 := hid (ld30 X1.out.range h.len)
  have HL := hid h.len
  have HC : Hid (Rr (w.alloc (Obj.cells L.toArray 39)) L r) := h.later (below1 _ _)
  clear h
  go_enter Try.func52, Try.ntmps52
  go_wp2_with (first | ((with_reducible refine ld_arm HLD2.out ?_ ?_); (· rfl)) | ((with_reducible refine ld_arm HLD1.out ?_ ?_); (· rfl)) | (go_at_call 57; refine (isReply_any op L r _ HC.out).mono ?_; rintro e w2 ⟨rfl, hb2⟩; rw [hf]; have HLD2 := hid (ld30 (X1.out.later hb2).range HL.out); have HC2 := hid (HC.out.later hb2); have HB2 := hid hb2; clear hb2) | (go_at_call 58; refine (layReply_any op L r _ HC2.out hf).mono ?_; rintro e w3 ⟨a, n, c', rfl, hown, hb3⟩))
  exact bodyPost_ret (v := .tuple #[.slice a n c', .int .i64 0]) (by simp [results, Try.results52, go_sem]) rfl ⟨_, _, _, rfl, hown.mono (by have := HB2.out.size; simp at this; omega), below_call (below_call (below1 _ _) HB2.out) hb3⟩
set_option maxRecDepth 100000 in
set_option maxHeartbeats 4000000 in
theorem answer_bad (op : Int) (L : List Value) (r : Rp) (w : World) (h : Rr w L r) (hf : rfm op r = false) :
    Calls Try.prog 52 #[.int .i64 op, .agg L.toArray] w fun e w' => e = .returned (.tuple #[.slice none 0 0, .int .i64 1]) ∧ Below w.heap.size w w' := by
  have X1 : Hid (Bx (w.alloc (Obj.cells L.toArray 39)) w.heap.size L) := Bx.new w L 39
  have HLD1 := hid (ld30 X1.out.range h.len)
  have HC : Hid (Rr (w.alloc (Obj.cells L.toArray 39)) L r) := h.later (below1 _ _)
  clear h
  go_enter Try.func52, Try.ntmps52
  go_wp2_with (first | ((with_reducible refine ld_arm HLD1.out ?_ ?_); (· rfl)) | (go_at_call 57; refine (isReply_any op L r _ HC.out).mono ?_; rintro e w2 ⟨rfl, hb2⟩; rw [hf]; have HB2 := hid hb2; clear hb2))
  exact bodyPost_ret (v := .tuple #[.slice none 0 0, .int .i64 1]) (by simp [results, Try.results52, go_sem]) rfl ⟨rfl, below_call (below1 _ _) HB2.out⟩
end Go.Proofs.Yticgammbjcdobaa
