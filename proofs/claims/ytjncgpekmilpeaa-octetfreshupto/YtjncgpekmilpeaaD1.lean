import Derived.Test.YtjncgpekmilpeaaC7
namespace Go.Proofs.Ytjncgpekmilpeaa
open Go.RowKit
set_option linter.unusedVariables false

def RPutRel (w : World) (n : Nat) (L : List Nat) (v k : Nat) (r o t : Value) (w' : World) : Prop :=
  ∃ (i : Nat) (a' : Option Addr) (cap' : Nat), i ≤ k ∧ t = .int .i64 (i : Int) ∧ r = .int .u64 ((v / 256 ^ i : Nat) : Int) ∧ o = .slice a' (n + i) cap' ∧ Own w' w.heap.size a' (n + i) cap' (L ++ leL v i) ∧ Below w.heap.size w w'
set_option maxRecDepth 100000 in
set_option maxHeartbeats 1000000 in
theorem rput_any (a : Option Addr) (n cap : Nat) (L : List Nat) (v k : Nat) (w : World) (hk : k ≤ 8) (hv : v < 18446744073709551616) (h : Row w a n cap L) (hr : n + 8 ≤ 140737488355328) :
    Calls Try.prog 20 #[.slice a n cap, .int .u64 (v : Int), .int .i64 (k : Int)] w fun e w' => ∃ a' cap', e = .returned (.slice a' (n + k) cap') ∧ Own w' w.heap.size a' (n + k) cap' (L ++ leL v k) ∧ Below w.heap.size w w' := by
  have HR : Hid (n + 8 ≤ 140737488355328) := hr
  obtain ⟨a0, c0, w0, hrun0, hown0, hg0⟩ := append_any (Own.nil w w.heap.size) h (Nat.le_refl _) (by omega)
  have HRUN0 : Hid _ := hrun0
  have H0 : Hid (RPutRel w n L v k (.int .u64 (v : Int)) (.slice a0 (n + 0) c0) (.int .i64 0) w0) := ⟨0, a0, c0, by omega, rfl, by simp, rfl, by simpa [leL_zero, Nat.add_comm] using hown0, by have := hg0.below (Own.nil w w.heap.size) (Nat.le_refl _); exact this⟩
  have hz : 0 + n = n := Nat.zero_add n
  rw [hz] at HRUN0
  clear h hr hrun0 hown0 hg0
  go_enter Try.func20, Try.ntmps20
  go_wp2_with (first | (at_builtin; refine wpList_append_known rfl _ _ 22 rfl _ _ rfl rfl _ w0 HRUN0.out ?_))
  go_loopw [1, 7, 8] (RPutRel w n L v k) (fun _ _ t _ => k - (intOf t).toNat)
  case atStart => exact H0.out
  case round =>
    clear H0 HRUN0
    obtain ⟨i, a', cap', hi, rfl, rfl, rfl, hown, hB⟩ := hrel
    obtain ⟨q, hq⟩ : ∃ q, q = v / 256 ^ i := ⟨_, rfl⟩
    have hq1 : q / 256 = v / 256 ^ (i + 1) := by rw [hq, Nat.pow_succ, ← Nat.div_div_eq_div_mul]
    rw [← hq]
    by_cases hlt : i < k
    · have hd : decide ((i : Int) < (k : Int)) = true := by simp; omega
      have hqv : q ≤ v := by rw [hq]; exact Nat.div_le_self _ _
      have e3 : IntKind.u64.wrap ((q : Int) / 256) = (q : Int) / 256 := by rw [IntKind.wrap_u64]; omega
      obtain ⟨b, hb⟩ : ∃ b, b = q % 256 := ⟨_, rfl⟩
      have e1 : IntKind.u8.wrap ((q : Int) % 256) = (b : Int) := by rw [IntKind.wrap_u8]; omega
      obtain ⟨a2, c2, w2, hrun, hown2, hB2⟩ := append_byte (b := b) hown hB.size (by have := HR.out; omega) (by omega)
      have HRUN : Hid _ := hrun
      have HO : Hid (Own w2 w.heap.size a2 (n + (i + 1)) c2 (L ++ leL v (i + 1))) := by rw [leL_succ, ← List.append_assoc, ← hq, ← hb]; exact hown2
      have HB : Hid (Below w.heap.size w w2) := hB.trans (hB2.below hown hB.size)
      have HQ : Hid (q / 256 = v / 256 ^ (i + 1)) := hq1
      clear hrun hown hown2 hB hB2 hq hq1 hb hqv
      go_wp2_with (first | (at_builtin; refine wpList_append_known rfl _ _ 22 rfl _ _ rfl rfl _ w2 HRUN.out ?_))
      go_roundw
      case rel => exact ⟨i + 1, a2, c2, by omega, by go_num, by rw [← HQ.out]; simp, rfl, HO.out, HB.out⟩
      case measure => simp [intOf]; omega
    · obtain rfl : i = k := by omega
      go_wp2
      go_ret
      exact ⟨a', cap', rfl, hown, hB⟩

theorem valL_drop (M : List Nat) (j : Nat) (h : j < M.length) : valL (M.drop j) = M[j] + 256 * valL (M.drop (j + 1)) := by
  rw [List.drop_eq_getElem_cons h]; rfl
theorem valL_drop_lt (M : List Nat) (j k : Nat) (hl : M.length ≤ k) (hj : 0 < j) (hk : k ≤ 8) (hs : ∀ x ∈ M, x < 256) : valL (M.drop j) < 72057594037927936 := by
  have h1 := valL_lt (M.drop j) (fun x hx => hs x (List.mem_of_mem_drop hx))
  have h2 : (256 : Nat) ^ (M.drop j).length ≤ 256 ^ 7 := Nat.pow_le_pow_right (by omega) (by simp; omega)
  omega
def RGetRel (M : List Nat) (v t : Value) : Prop := ∃ j : Nat, j ≤ M.length ∧ t = .int .i64 ((j : Int) - 1) ∧ v = .int .u64 ((valL (M.drop j) : Nat) : Int)
set_option maxRecDepth 100000 in
set_option maxHeartbeats 1000000 in
theorem rget_any (a : Option Addr) (n cap : Nat) (L : List Nat) (k : Nat) (w : World) (hk : k ≤ 8) (hk1 : 0 < k) (h : Row w a n cap L) :
    Calls Try.prog 33 #[.slice a n cap, .int .i64 (k : Int)] w fun e w' => e = .returned (.tuple #[.int .u64 ((getV L k : Nat) : Int), .int .i64 (getE L k)]) ∧ w' = w := by
  obtain rfl := h.len
  by_cases hl : L.length < k
  · obtain ⟨e1, e2⟩ := get_short hl
    rw [e1, e2]
    have hd : decide ((L.length : Int) < (k : Int)) = true := by simp; omega
    go_enter Try.func33, Try.ntmps33
    go_wp2
    exact bodyPost_ret (v := .tuple #[.int .u64 0, .int .i64 17]) (by simp [results, Try.results33, go_sem]) rfl ⟨rfl, rfl⟩
  · obtain ⟨e1, e2⟩ := get_full hl
    rw [e1, e2]
    have hd : decide ((L.length : Int) < (k : Int)) = false := decide_eq_false (by omega)
    obtain ⟨b, o, rfl, hc⟩ := h.plain (by omega)
    have hml : (L.take k).length = k := by simp; omega
    have HS : Hid (∀ x ∈ L.take k, x < 256) := fun x hx => h.small x (List.mem_of_mem_take hx)
    have HC : Hid (∀ i (hi : i < (L.take k).length), w.cell? ⟨b, o + i, none⟩ = some (.int .u8 (((L.take k)[i] : Nat) : Int))) := fun i hi => by
      rw [List.getElem_take]; exact hc i (by simp at hi; omega)
    have ek : IntKind.i64.wrap ((k : Int) - 1) = (k : Int) - 1 := by rw [IntKind.wrap_i64]; omega
    have hkl : k ≤ L.length := by omega
    obtain ⟨M, hM⟩ : ∃ M, M = L.take k := ⟨_, rfl⟩
    rw [← hM] at hml HS HC ⊢
    have H0 : Hid (RGetRel M (.int .u64 0) (.int .i64 ((k : Int) - 1))) := ⟨k, by omega, rfl, by rw [List.drop_of_length_le (by omega)]; rfl⟩
    clear hc h e1 e2 hM hl
    go_enter Try.func33, Try.ntmps33
    go_wp2
    go_loop [6, 7] (RGetRel M) (fun _ t => (intOf t + 1).toNat)
    case atStart => exact H0.out
    case round =>
      clear H0
      obtain ⟨j, hj, rfl, rfl⟩ := hrel
      cases j with
      | zero =>
        go_wp2
        exact bodyPost_ret (v := .tuple #[.int .u64 ((valL M : Nat) : Int), .int .i64 0]) (by simp [results, Try.results33, go_sem]) rfl ⟨rfl, rfl⟩
      | succ i =>
        have ej : (((i + 1 : Nat) : Int) - 1) = (i : Int) := by omega
        rw [ej]
        have hi : i < M.length := by omega
        have hcell := HC.out i hi
        have hb := HS.out _ (List.getElem_mem hi)
        have hv := valL_drop M i hi
        have hlt := valL_drop_lt M (i + 1) k (by omega) (by omega) hk HS.out
        obtain ⟨x, hx⟩ : ∃ x, x = M[i] := ⟨_, rfl⟩
        obtain ⟨y, hy⟩ : ∃ y, y = valL (M.drop (i + 1)) := ⟨_, rfl⟩
        rw [← hx] at hcell hb hv
        rw [← hy] at hlt hv ⊢
        have HV : Hid (valL (M.drop i) = x + 256 * y) := hv
        have f1 : IntKind.u64.wrap ((y : Int) * 256) = (y : Int) * 256 := by rw [IntKind.wrap_u64]; omega
        have f2 : IntKind.u64.wrap (x : Int) = (x : Int) := by rw [IntKind.wrap_u64]; omega
        have f3 : IntKind.u64.wrap ((y : Int) * 256 + (x : Int)) = (y : Int) * 256 + (x : Int) := by rw [IntKind.wrap_u64]; omega
        have f4 : (i : Int) < (L.length : Int) := by omega
        clear hv hx hy hlt hb
        go_wp2
        exact ⟨⟨i, by omega, by go_num, by rw [HV.out]; go_num⟩, by simp [intOf]⟩

set_option maxRecDepth 100000 in
set_option maxHeartbeats 1000000 in
theorem rputWord_any (a : Option Addr) (n cap : Nat) (L : List Nat) (hi lo : Nat) (w : World) (hhi : hi < 18446744073709551616) (hlo : lo < 18446744073709551616) (h : Row w a n cap L) (hr : n + 16 ≤ 140737488355328) :
    Calls Try.prog 28 #[.slice a n cap, .agg #[.int .u64 (hi : Int), .int .u64 (lo : Int)]] w fun e w' => ∃ a' cap', e = .returned (.slice a' (n + 16) cap') ∧ Own w' w.heap.size a' (n + 16) cap' (L ++ leL lo 8 ++ leL hi 8) ∧ Below w.heap.size w w' := by
  have HR : Hid (n + 16 ≤ 140737488355328) := hr
  have H0 : Hid (Row (w.alloc (Obj.cells #[Value.int IntKind.u64 (hi : Int), Value.int IntKind.u64 (lo : Int)] 25)).drew a n cap L) := h.later ((below1 _ _).drew)
  have X0 : Hid (Box (w.alloc (Obj.cells #[Value.int IntKind.u64 (hi : Int), Value.int IntKind.u64 (lo : Int)] 25)).drew w.heap.size hi lo) := Box.new w hi lo
  clear h hr
  go_enter Try.func28, Try.ntmps28
  go_wp2
  go_region_held3 (fun w' => (w'.cell? ⟨w.heap.size, 0, none⟩ = some (.int .u64 (hi : Int)) ∧ w'.cell? ⟨w.heap.size, 1, none⟩ = some (.int .u64 (lo : Int)))) (first | exact X0.out | exact X1 | exact X2) (first | (go_at_call 20; refine (rput_any _ _ _ _ hi 8 _ (by omega) hhi hown1.read (by have := HR.out; omega)).mono ?_; rintro e w2 ⟨a2, c2, rfl, hown2, hb2⟩; have X2 := X1.later hb2) | (go_at_call 20; refine (rput_any a n cap L lo 8 _ (by omega) hlo H0.out (by have := HR.out; omega)).mono ?_; rintro e w1 ⟨a1, c1, rfl, hown1, hb1⟩; have X1 := X0.out.later hb1))
  go_wp2
  go_ret
  exact ⟨a2, c2, rfl, hown2.mono (Nat.le_trans (by simp) hb1.size), below_call (below_call ((below1 _ _).drew) hb1) hb2⟩

set_option maxRecDepth 100000 in
set_option maxHeartbeats 1000000 in
theorem rputCap_any (a : Option Addr) (n cap : Nat) (L : List Nat) (o : Int) (hi lo : Nat) (w : World) (hhi : hi < 18446744073709551616) (hlo : lo < 18446744073709551616) (h : Row w a n cap L) (hr : n + 24 ≤ 140737488355328) :
    Calls Try.prog 27 #[.slice a n cap, .agg #[.int .i64 o, .int .u64 (hi : Int), .int .u64 (lo : Int)]] w fun e w' => ∃ a' n' cap', e = .returned (.tuple #[.slice a' n' cap', .int .i64 (pcE o)]) ∧ Own w' w.heap.size a' n' cap' (pcL L o hi lo) ∧ Below w.heap.size w w' := by
  by_cases h0 : o < 0
  · have e1 : pcE o = 5 := by unfold pcE; rw [if_pos (.inl h0)]
    have e2 : pcL L o hi lo = [] := by unfold pcL; rw [e1, if_neg (by omega)]
    rw [e1, e2]
    have hd : decide (o < 0) = true := decide_eq_true h0
    go_enter Try.func27, Try.ntmps27
    go_wp2
    exact bodyPost_ret (v := .tuple #[.slice none 0 0, .int .i64 5]) (by simp [results, Try.results27, go_sem]) rfl ⟨none, 0, 0, rfl, Own.nil _ _, below1 _ _⟩
  by_cases h1 : 4611686018427387904 < o
  · have e1 : pcE o = 5 := by unfold pcE; rw [if_pos (.inr h1)]
    have e2 : pcL L o hi lo = [] := by unfold pcL; rw [e1, if_neg (by omega)]
    rw [e1, e2]
    have hd : decide (o < 0) = false := decide_eq_false h0
    have hd1 : decide (4611686018427387904 < o) = true := decide_eq_true h1
    go_enter Try.func27, Try.ntmps27
    go_wp2
    exact bodyPost_ret (v := .tuple #[.slice none 0 0, .int .i64 5]) (by simp [results, Try.results27, go_sem]) rfl ⟨none, 0, 0, rfl, Own.nil _ _, below1 _ _⟩
  have e1 : pcE o = 0 := by unfold pcE; rw [if_neg (by omega)]
  have e2 : pcL L o hi lo = L ++ leL o.toNat 8 ++ leL lo 8 ++ leL hi 8 := by unfold pcL; rw [if_pos e1]
  rw [e1, e2]
  obtain ⟨m, rfl⟩ : ∃ m : Nat, o = (m : Int) := ⟨o.toNat, by omega⟩
  rw [Int.toNat_natCast]
  have hm : m < 18446744073709551616 := by omega
  have ew : IntKind.u64.wrap (m : Int) = (m : Int) := by rw [IntKind.wrap_u64]; omega
  have hd : decide ((m : Int) < 0) = false := decide_eq_false h0
  have hd1 : decide (4611686018427387904 < (m : Int)) = false := decide_eq_false h1
  have HR : Hid (n + 24 ≤ 140737488355328) := hr
  have H0 : Hid (Row (w.alloc (Obj.cells #[.int .i64 (m : Int), Value.int IntKind.u64 (hi : Int), Value.int IntKind.u64 (lo : Int)] 27)).drew a n cap L) := h.later ((below1 _ _).drew)
  have X0 : Hid (CBox (w.alloc (Obj.cells #[.int .i64 (m : Int), Value.int IntKind.u64 (hi : Int), Value.int IntKind.u64 (lo : Int)] 27)).drew w.heap.size m hi lo) := CBox.new w m hi lo
  clear h hr h0 h1 e1 e2
  go_enter Try.func27, Try.ntmps27
  go_upto_region 3 with fail
  go_region_held3 (fun w' => (w'.cell? ⟨w.heap.size, 0, none⟩ = some (.int .i64 (m : Int)) ∧ w'.cell? ⟨w.heap.size, 1, none⟩ = some (.int .u64 (hi : Int)) ∧ w'.cell? ⟨w.heap.size, 2, none⟩ = some (.int .u64 (lo : Int)))) (first | exact X0.out | exact X1 | exact X2) (first | (go_at_call 28; refine (rputWord_any _ _ _ _ hi lo _ hhi hlo hown1.read (by have := HR.out; omega)).mono ?_; rintro e w2 ⟨a2, c2, rfl, hown2, hb2⟩; have X2 := X1.later hb2) | (go_at_call 20; refine (rput_any a n cap L m 8 _ (by omega) hm H0.out (by have := HR.out; omega)).mono ?_; rintro e w1 ⟨a1, c1, rfl, hown1, hb1⟩; have X1 := X0.out.later hb1))
  go_wp2
  exact bodyPost_ret (v := .tuple #[.slice a2 (n + 8 + 16) c2, .int .i64 0]) (by simp [results, Try.results27, go_sem]) rfl ⟨a2, _, c2, rfl, hown2.mono (Nat.le_trans (by simp) hb1.size), below_call (below_call ((below1 _ _).drew) hb1) hb2⟩

set_option maxRecDepth 100000 in
set_option maxHeartbeats 1000000 in
theorem rjoin_any (b cap k : Nat) (rs : List R4) (w : World) (hk : k = rs.length) (hrl : rs.length < 1000) (hc : ∀ j (hj : j < rs.length), w.cell? ⟨b, j, none⟩ = some (val4 rs[j])) (hrow : ∀ r ∈ rs, Row w r.1 r.2.1 r.2.2.1 r.2.2.2) (hr : (cat4 rs).length ≤ 140737488355328) :
    Calls Try.prog 21 #[.slice (some ⟨b, 0, none⟩) k cap] w fun e w' => ∃ a' n' cap', e = .returned (.slice a' n' cap') ∧ Own w' w.heap.size a' n' cap' (cat4 rs) ∧ Below w.heap.size w w' := by
  subst hk
  have HC : Hid (∀ j (hj : j < rs.length), w.cell? ⟨b, j, none⟩ = some (val4 rs[j])) := hc
  have HRow : Hid (∀ r ∈ rs, Row w r.1 r.2.1 r.2.2.1 r.2.2.2) := hrow
  have HR : Hid ((cat4 rs).length ≤ 140737488355328) := hr
  have BB : Below w.heap.size w w := Below.refl _ _
  clear hc hrow hr
  go_enter Try.func21, Try.ntmps21
  go_wp2
  go_loopw [3, 4] (CatRel w rs) (fun _ t _ => rs.length - (intOf t).toNat)
  case atStart => exact ⟨0, _, _, _, by omega, rfl, rfl, Own.nil _ _, BB⟩
  case round =>
    clear BB
    obtain ⟨i, a', n', cap', hi, rfl, rfl, hown, hB⟩ := hrel
    have ei : IntKind.i64.wrap ((i : Int) + 1) = (i : Int) + 1 := by rw [IntKind.wrap_i64]; omega
    by_cases hlt : i < rs.length
    · have hd : decide ((i : Int) < (rs.length : Int)) = true := by simp; omega
      have hcell := cell_later hB (HC.out i hlt)
      obtain ⟨a1, n1, c1, L1, hri⟩ : ∃ a1 n1 c1 L1, rs[i] = (a1, n1, c1, L1) := ⟨_, _, _, _, rfl⟩
      have hR := (HRow.out _ (List.getElem_mem hlt)).later hB
      have hct := cat4_take rs i hlt
      have hle := cat4_take_le rs (i + 1)
      rw [hri] at hcell hR hct
      simp only [val4] at hcell
      simp only at hR hct
      have hl1 := hR.len
      have hl2 := hown.len
      have hl3 : (cat4 (rs.take (i + 1))).length = (cat4 (rs.take i)).length + L1.length := by rw [hct, List.length_append]
      obtain ⟨a2, c2, w3, hrun, hown2, hg2⟩ := append_any hown hR hB.size (by have := HR.out; omega)
      rw [← hct] at hown2
      have HRUN : Hid _ := hrun
      have HB : Hid (Below w.heap.size w w3) := hB.trans (hg2.below hown hB.size)
      clear hrun hown hB hg2 hR hct hle hri hl1 hl2 hl3
      go_wp2_with (first | (at_builtin; refine wpList_append_known rfl _ _ 22 rfl _ _ rfl rfl _ w3 HRUN.out ?_))
      go_roundw
      case rel => exact ⟨i + 1, a2, _, c2, by omega, by simp, rfl, hown2, HB.out⟩
      case measure => simp [intOf]; omega
    · obtain rfl : i = rs.length := by omega
      rw [List.take_length] at hown
      go_wp2
      go_ret
      exact ⟨_, _, _, rfl, hown, hB⟩
end Go.Proofs.Ytjncgpekmilpeaa
