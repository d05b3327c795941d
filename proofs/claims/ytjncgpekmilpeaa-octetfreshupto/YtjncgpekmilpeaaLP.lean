import Derived.Test.YtjncgpekmilpeaaD1
namespace Go.Proofs.Ytjncgpekmilpeaa
open Go.RowKit
set_option linter.unusedVariables false

theorem same_eq (a b : Option Addr) (n m c d : Nat) (L : List Nat) (w : World) (h : Row w a n c L) (k : Row w b m d L) :
    Calls Try.prog 18 #[.slice a n c, .slice b m d] w fun e w' => e = .returned (.bool true) ∧ w' = w := by
  refine (same_any a b n m c d L L w h k).mono ?_
  rintro e w' ⟨rfl, rfl⟩
  exact ⟨by simp, rfl⟩
theorem cells3 (w : World) (r1 r2 r3 : R4) : ∀ j (hj : j < [r1, r2, r3].length), (w.alloc (.cells #[val4 r1, val4 r2, val4 r3] 22)).cell? ⟨w.heap.size, j, none⟩ = some (val4 [r1, r2, r3][j]) := by
  intro j hj
  have : j = 0 ∨ j = 1 ∨ j = 2 := by simp at hj; omega
  rcases this with rfl | rfl | rfl <;> simp [go_sem]
theorem cells2 (w : World) (r1 r2 : R4) : ∀ j (hj : j < [r1, r2].length), (w.alloc (.cells #[val4 r1, val4 r2] 22)).cell? ⟨w.heap.size, j, none⟩ = some (val4 [r1, r2][j]) := by
  intro j hj
  have : j = 0 ∨ j = 1 := by simp at hj; omega
  rcases this with rfl | rfl <;> simp [go_sem]
theorem cells1 (w : World) (r1 : R4) : ∀ j (hj : j < [r1].length), (w.alloc (.cells #[val4 r1] 22)).cell? ⟨w.heap.size, j, none⟩ = some (val4 [r1][j]) := by
  intro j hj
  have : j = 0 := by simp at hj; omega
  subst this
  simp [go_sem]
theorem join1 (a1 : Option Addr) (n1 c1 : Nat) (L1 : List Nat) (w : World) (b : Nat) (hb : b = w.heap.size) (h1 : Row w a1 n1 c1 L1) (hr : n1 ≤ 140737488355328) :
    Calls Try.prog 17 #[.slice (some ⟨b, 0, none⟩) 1 1] (w.alloc (Obj.cells #[.slice a1 n1 c1] 22)) fun e w' => ∃ a' cap', e = .returned (.slice a' (n1) cap') ∧ Own w' w.heap.size a' (n1) cap' (L1) ∧ Below w.heap.size w w' := by
  subst hb
  have e0 : cat4 [(a1, n1, c1, L1)] = L1 := by simp [cat4]
  have hl : (cat4 [(a1, n1, c1, L1)]).length = n1 := by rw [e0]; simp [h1.len]; try omega
  refine (join_any w.heap.size 1 1 [(a1, n1, c1, L1)] _ rfl (by simp) (cells1 w (a1, n1, c1, L1)) (fun r hr => ?_) (by rw [hl]; omega)).mono ?_
  · simp only [List.mem_cons, List.not_mem_nil, or_false] at hr
    rcases hr with rfl
    · exact h1.alloc _
  · rintro e w' ⟨a', n', cap', rfl, hown, hb⟩
    have hn := hown.len
    rw [hl] at hn
    subst hn
    rw [e0] at hown
    exact ⟨a', cap', rfl, hown.mono (by simp), below_call (below1 _ _) hb⟩
theorem join2 (a1 a2 : Option Addr) (n1 c1 n2 c2 : Nat) (L1 L2 : List Nat) (w : World) (b : Nat) (hb : b = w.heap.size) (h1 : Row w a1 n1 c1 L1) (h2 : Row w a2 n2 c2 L2) (hr : n1 + n2 ≤ 140737488355328) :
    Calls Try.prog 17 #[.slice (some ⟨b, 0, none⟩) 2 2] (w.alloc (Obj.cells #[.slice a1 n1 c1, .slice a2 n2 c2] 22)) fun e w' => ∃ a' cap', e = .returned (.slice a' (n1 + n2) cap') ∧ Own w' w.heap.size a' (n1 + n2) cap' (L1 ++ L2) ∧ Below w.heap.size w w' := by
  subst hb
  have e0 : cat4 [(a1, n1, c1, L1), (a2, n2, c2, L2)] = L1 ++ L2 := by simp [cat4]
  have hl : (cat4 [(a1, n1, c1, L1), (a2, n2, c2, L2)]).length = n1 + n2 := by rw [e0]; simp [h1.len, h2.len]; try omega
  refine (join_any w.heap.size 2 2 [(a1, n1, c1, L1), (a2, n2, c2, L2)] _ rfl (by simp) (cells2 w (a1, n1, c1, L1) (a2, n2, c2, L2)) (fun r hr => ?_) (by rw [hl]; omega)).mono ?_
  · simp only [List.mem_cons, List.not_mem_nil, or_false] at hr
    rcases hr with rfl | rfl
    · exact h1.alloc _
    · exact h2.alloc _
  · rintro e w' ⟨a', n', cap', rfl, hown, hb⟩
    have hn := hown.len
    rw [hl] at hn
    subst hn
    rw [e0] at hown
    exact ⟨a', cap', rfl, hown.mono (by simp), below_call (below1 _ _) hb⟩
theorem join3 (a1 a2 a3 : Option Addr) (n1 c1 n2 c2 n3 c3 : Nat) (L1 L2 L3 : List Nat) (w : World) (b : Nat) (hb : b = w.heap.size) (h1 : Row w a1 n1 c1 L1) (h2 : Row w a2 n2 c2 L2) (h3 : Row w a3 n3 c3 L3) (hr : n1 + n2 + n3 ≤ 140737488355328) :
    Calls Try.prog 17 #[.slice (some ⟨b, 0, none⟩) 3 3] (w.alloc (Obj.cells #[.slice a1 n1 c1, .slice a2 n2 c2, .slice a3 n3 c3] 22)) fun e w' => ∃ a' cap', e = .returned (.slice a' (n1 + n2 + n3) cap') ∧ Own w' w.heap.size a' (n1 + n2 + n3) cap' (L1 ++ (L2 ++ L3)) ∧ Below w.heap.size w w' := by
  subst hb
  have e0 : cat4 [(a1, n1, c1, L1), (a2, n2, c2, L2), (a3, n3, c3, L3)] = L1 ++ (L2 ++ L3) := by simp [cat4]
  have hl : (cat4 [(a1, n1, c1, L1), (a2, n2, c2, L2), (a3, n3, c3, L3)]).length = n1 + n2 + n3 := by rw [e0]; simp [h1.len, h2.len, h3.len]; try omega
  refine (join_any w.heap.size 3 3 [(a1, n1, c1, L1), (a2, n2, c2, L2), (a3, n3, c3, L3)] _ rfl (by simp) (cells3 w (a1, n1, c1, L1) (a2, n2, c2, L2) (a3, n3, c3, L3)) (fun r hr => ?_) (by rw [hl]; omega)).mono ?_
  · simp only [List.mem_cons, List.not_mem_nil, or_false] at hr
    rcases hr with rfl | rfl | rfl
    · exact h1.alloc _
    · exact h2.alloc _
    · exact h3.alloc _
  · rintro e w' ⟨a', n', cap', rfl, hown, hb⟩
    have hn := hown.len
    rw [hl] at hn
    subst hn
    rw [e0] at hown
    exact ⟨a', cap', rfl, hown.mono (by simp), below_call (below1 _ _) hb⟩
theorem rjoin2 (a1 a2 : Option Addr) (n1 c1 n2 c2 : Nat) (L1 L2 : List Nat) (w : World) (b : Nat) (hb : b = w.heap.size) (h1 : Row w a1 n1 c1 L1) (h2 : Row w a2 n2 c2 L2) (hr : n1 + n2 ≤ 140737488355328) :
    Calls Try.prog 21 #[.slice (some ⟨b, 0, none⟩) 2 2] (w.alloc (Obj.cells #[.slice a1 n1 c1, .slice a2 n2 c2] 22)) fun e w' => ∃ a' cap', e = .returned (.slice a' (n1 + n2) cap') ∧ Own w' w.heap.size a' (n1 + n2) cap' (L1 ++ L2) ∧ Below w.heap.size w w' := by
  subst hb
  have e0 : cat4 [(a1, n1, c1, L1), (a2, n2, c2, L2)] = L1 ++ L2 := by simp [cat4]
  have hl : (cat4 [(a1, n1, c1, L1), (a2, n2, c2, L2)]).length = n1 + n2 := by rw [e0]; simp [h1.len, h2.len]; try omega
  refine (rjoin_any w.heap.size 2 2 [(a1, n1, c1, L1), (a2, n2, c2, L2)] _ rfl (by simp) (cells2 w (a1, n1, c1, L1) (a2, n2, c2, L2)) (fun r hr => ?_) (by rw [hl]; omega)).mono ?_
  · simp only [List.mem_cons, List.not_mem_nil, or_false] at hr
    rcases hr with rfl | rfl
    · exact h1.alloc _
    · exact h2.alloc _
  · rintro e w' ⟨a', n', cap', rfl, hown, hb⟩
    have hn := hown.len
    rw [hl] at hn
    subst hn
    rw [e0] at hown
    exact ⟨a', cap', rfl, hown.mono (by simp), below_call (below1 _ _) hb⟩
theorem rjoin3 (a1 a2 a3 : Option Addr) (n1 c1 n2 c2 n3 c3 : Nat) (L1 L2 L3 : List Nat) (w : World) (b : Nat) (hb : b = w.heap.size) (h1 : Row w a1 n1 c1 L1) (h2 : Row w a2 n2 c2 L2) (h3 : Row w a3 n3 c3 L3) (hr : n1 + n2 + n3 ≤ 140737488355328) :
    Calls Try.prog 21 #[.slice (some ⟨b, 0, none⟩) 3 3] (w.alloc (Obj.cells #[.slice a1 n1 c1, .slice a2 n2 c2, .slice a3 n3 c3] 22)) fun e w' => ∃ a' cap', e = .returned (.slice a' (n1 + n2 + n3) cap') ∧ Own w' w.heap.size a' (n1 + n2 + n3) cap' (L1 ++ (L2 ++ L3)) ∧ Below w.heap.size w w' := by
  subst hb
  have e0 : cat4 [(a1, n1, c1, L1), (a2, n2, c2, L2), (a3, n3, c3, L3)] = L1 ++ (L2 ++ L3) := by simp [cat4]
  have hl : (cat4 [(a1, n1, c1, L1), (a2, n2, c2, L2), (a3, n3, c3, L3)]).length = n1 + n2 + n3 := by rw [e0]; simp [h1.len, h2.len, h3.len]; try omega
  refine (rjoin_any w.heap.size 3 3 [(a1, n1, c1, L1), (a2, n2, c2, L2), (a3, n3, c3, L3)] _ rfl (by simp) (cells3 w (a1, n1, c1, L1) (a2, n2, c2, L2) (a3, n3, c3, L3)) (fun r hr => ?_) (by rw [hl]; omega)).mono ?_
  · simp only [List.mem_cons, List.not_mem_nil, or_false] at hr
    rcases hr with rfl | rfl | rfl
    · exact h1.alloc _
    · exact h2.alloc _
    · exact h3.alloc _
  · rintro e w' ⟨a', n', cap', rfl, hown, hb⟩
    have hn := hown.len
    rw [hl] at hn
    subst hn
    rw [e0] at hown
    exact ⟨a', cap', rfl, hown.mono (by simp), below_call (below1 _ _) hb⟩
set_option maxRecDepth 100000 in
set_option maxHeartbeats 4000000 in
theorem puts_walk (a : Option Addr) (n cap : Nat) (L : List Nat) (v : Nat) (o : Int) (hi lo : Nat) (w : World) (h : Row w a n cap L) (hn : n ≤ 1048576) (hv : v < 18446744073709551616) (hhi : hi < 18446744073709551616) (hlo : lo < 18446744073709551616) :
    Calls Try.prog 5 #[.slice a n cap, .int .u64 (v : Int), .agg #[.int .i64 o, .int .u64 (hi : Int), .int .u64 (lo : Int)]] w fun e w' => e = .returned (.bool true) ∧ Below w.heap.size w w' := by
  have hb0 : Below w.heap.size w (w.alloc (Obj.cells #[.int .i64 o, .int .u64 (hi : Int), .int .u64 (lo : Int)] 27)) := below1 _ _
  have X := CBox.new w o hi lo
  have R0 := h.alloc (Obj.cells #[.int .i64 o, .int .u64 (hi : Int), .int .u64 (lo : Int)] 27)
  obtain ⟨v8, hv8⟩ : ∃ x, x = v % 256 := ⟨_, rfl⟩
  obtain ⟨v16, hv16⟩ : ∃ x, x = v % 65536 := ⟨_, rfl⟩
  obtain ⟨v32, hv32⟩ : ∃ x, x = v % 4294967296 := ⟨_, rfl⟩
  have ew8 : IntKind.u8.wrap (v : Int) = (v8 : Int) := by rw [IntKind.wrap_u8]; omega
  have ew16 : IntKind.u16.wrap (v : Int) = (v16 : Int) := by rw [IntKind.wrap_u16]; omega
  have ew32 : IntKind.u32.wrap (v : Int) = (v32 : Int) := by rw [IntKind.wrap_u32]; omega
  have em8 : (v : Int) % 256 = (v8 : Int) := by omega
  have em16 : (v : Int) % 65536 = (v16 : Int) := by omega
  have em32 : (v : Int) % 4294967296 = (v32 : Int) := by omega
  have l8 : v8 < 256 := by omega
  have l16 : v16 < 65536 := by omega
  have l32 : v32 < 4294967296 := by omega
  have H8 : Hid (v8 < 256 ∧ v16 < 65536 ∧ v32 < 4294967296) := ⟨l8, l16, l32⟩
  have HN : Hid (n ≤ 1048576) := hn
  have g1 : IntKind.u64.wrap ((getV L 1 : Nat) : Int) = ((getV L 1 : Nat) : Int) := by have := getV_lt L 1 h.small; rw [IntKind.wrap_u64]; omega
  have g2 : IntKind.u64.wrap ((getV L 2 : Nat) : Int) = ((getV L 2 : Nat) : Int) := by have := getV_lt L 2 h.small; rw [IntKind.wrap_u64]; omega
  have g4 : IntKind.u64.wrap ((getV L 4 : Nat) : Int) = ((getV L 4 : Nat) : Int) := by have := getV_lt L 4 h.small; rw [IntKind.wrap_u64]; omega
  clear h hv8 hv16 hv32 l8 l16 l32 hn
  go_enter Try.func5, Try.ntmps5
  go_upto_region 3 with (first | (go_at_call 7; refine (head_any _).mono ?_; rintro e w1 ⟨rfl, hb⟩; replace hb0 := below_call hb0 hb; replace R0 := R0.later hb; replace X := X.later hb; clear hb))
  go_upto_region 4 with (first | (go_at_call 8; refine (lent_any a n cap L _ R0 (by have := HN.out; omega)).mono ?_; rintro e w1 ⟨g, cl, rfl, K, hb⟩; replace hb0 := below_call hb0 hb; replace R0 := R0.later hb; replace X := X.later hb; clear hb))
  have KR := K.row
  go_upto_region 5 with (first | (go_at_call 15; refine (put64 _ _ _ L v _ hv KR (by have := HN.out; omega)).mono ?_; rintro e w5 ⟨a8, c8, rfl, P8, hb⟩; replace hb0 := below_call hb0 hb; replace R0 := R0.later hb; replace X := X.later hb; replace K := K.later hb; replace KR := KR.later hb; replace P1 := P1.later hb; replace P2 := P2.later hb; replace P4 := P4.later hb; clear hb) | (go_at_call 14; refine (put32 _ _ _ L v32 _ H8.out.2.2 KR (by have := HN.out; omega)).mono ?_; rintro e w4 ⟨a4, c4, rfl, P4, hb⟩; replace hb0 := below_call hb0 hb; replace R0 := R0.later hb; replace X := X.later hb; replace K := K.later hb; replace KR := KR.later hb; replace P1 := P1.later hb; replace P2 := P2.later hb; clear hb) | (go_at_call 13; refine (put16 _ _ _ L v16 _ H8.out.2.1 KR (by have := HN.out; omega)).mono ?_; rintro e w3 ⟨a2, c2, rfl, P2, hb⟩; replace hb0 := below_call hb0 hb; replace R0 := R0.later hb; replace X := X.later hb; replace K := K.later hb; replace KR := KR.later hb; replace P1 := P1.later hb; clear hb) | (go_at_call 12; refine (put8 _ _ _ L v8 _ H8.out.1 KR (by have := HN.out; omega)).mono ?_; rintro e w2 ⟨a1, c1, rfl, P1, hb⟩; replace hb0 := below_call hb0 hb; replace R0 := R0.later hb; replace X := X.later hb; replace K := K.later hb; replace KR := KR.later hb; clear hb))
  have x1 := X.2.1
  have x2 := X.2.2
  go_upto_region 6 with (first | (go_at_call 16; refine (putWord_any _ _ _ L hi lo _ hhi hlo KR (by have := HN.out; omega)).mono ?_; rintro e w6 ⟨aw, cw, rfl, PW, hb⟩; replace hb0 := below_call hb0 hb; replace R0 := R0.later hb; replace X := X.later hb; replace K := K.later hb; replace KR := KR.later hb; replace P1 := P1.later hb; replace P2 := P2.later hb; replace P4 := P4.later hb; replace P8 := P8.later hb; clear x1 x2; have x0 := X.1; have x1 := X.2.1; have x2 := X.2.2; clear hb))
  go_upto_region 7 with (first | (go_at_call 10; refine (putCap_any _ _ _ L o hi lo _ hhi hlo KR (by have := HN.out; omega)).mono ?_; rintro e w7 ⟨ax, nx, cx, rfl, PX, hb⟩; replace hb0 := below_call hb0 hb; replace R0 := R0.later hb; replace X := X.later hb; replace K := K.later hb; replace KR := KR.later hb; replace P1 := P1.later hb; replace P2 := P2.later hb; replace P4 := P4.later hb; replace P8 := P8.later hb; replace PW := PW.later hb; clear x0 x1 x2; have x0 := X.1; have x1 := X.2.1; have x2 := X.2.2; clear hb))
  go_upto_region 8 with (first | (go_at_call 27; refine (rputCap_any _ _ _ L o hi lo _ hhi hlo R0 (by have := HN.out; omega)).mono ?_; rintro e w8 ⟨ay, ny, cy, rfl, PY, hb⟩; replace hb0 := below_call hb0 hb; replace R0 := R0.later hb; replace X := X.later hb; replace K := K.later hb; replace KR := KR.later hb; replace P1 := P1.later hb; replace P2 := P2.later hb; replace P4 := P4.later hb; replace P8 := P8.later hb; replace PW := PW.later hb; replace PX := PX.later hb; clear x0 x1 x2; clear hb))
  have PR2 := P2.read
  go_upto_region 9 with (first | (go_at_call 17; refine (join3 _ _ _ _ _ _ _ _ _ L (L ++ leL v16 2) L _ _ rfl KR PR2 KR (by have := HN.out; omega)).mono ?_; rintro e w9 ⟨aj, cj, rfl, PJ, hb⟩; replace hb0 := below_call hb0 hb; replace R0 := R0.later hb; replace X := X.later hb; replace K := K.later hb; replace KR := KR.later hb; replace P1 := P1.later hb; replace P2 := P2.later hb; replace P4 := P4.later hb; replace P8 := P8.later hb; replace PW := PW.later hb; replace PX := PX.later hb; replace PY := PY.later hb; replace PR2 := PR2.later hb; clear hb))
  go_upto_region 11 with (first | (go_at_call 18; refine (same_eq _ _ _ _ _ _ _ _ P8.read Q8.read).mono ?_; rintro e ws ⟨rfl, rfl⟩) | (go_at_call 18; refine (same_eq _ _ _ _ _ _ _ _ P4.read Q4.read).mono ?_; rintro e ws ⟨rfl, rfl⟩) | (go_at_call 18; refine (same_eq _ _ _ _ _ _ _ _ P2.read Q2.read).mono ?_; rintro e ws ⟨rfl, rfl⟩) | (go_at_call 18; refine (same_eq _ _ _ _ _ _ _ _ P1.read Q1.read).mono ?_; rintro e ws ⟨rfl, rfl⟩) | (go_at_call 20; have hq_ := Q4; clear hq_; refine (rput_any _ _ _ L v 8 _ (by omega) hv R0 (by have := HN.out; omega)).mono ?_; rintro e w10 ⟨b8, d8, rfl, Q8, hb⟩; replace hb0 := below_call hb0 hb; replace R0 := R0.later hb; replace X := X.later hb; replace K := K.later hb; replace KR := KR.later hb; replace P1 := P1.later hb; replace P2 := P2.later hb; replace P4 := P4.later hb; replace P8 := P8.later hb; replace PW := PW.later hb; replace PX := PX.later hb; replace PY := PY.later hb; replace PR2 := PR2.later hb; replace PJ := PJ.later hb; replace Q1 := Q1.later hb; replace Q2 := Q2.later hb; replace Q4 := Q4.later hb; clear hb) | (go_at_call 20; have hq_ := Q2; clear hq_; refine (rput_any _ _ _ L v32 4 _ (by omega) (by have := H8.out.2.2; omega) R0 (by have := HN.out; omega)).mono ?_; rintro e w10 ⟨b4, d4, rfl, Q4, hb⟩; replace hb0 := below_call hb0 hb; replace R0 := R0.later hb; replace X := X.later hb; replace K := K.later hb; replace KR := KR.later hb; replace P1 := P1.later hb; replace P2 := P2.later hb; replace P4 := P4.later hb; replace P8 := P8.later hb; replace PW := PW.later hb; replace PX := PX.later hb; replace PY := PY.later hb; replace PR2 := PR2.later hb; replace PJ := PJ.later hb; replace Q1 := Q1.later hb; replace Q2 := Q2.later hb; clear hb) | (go_at_call 20; have hq_ := Q1; clear hq_; refine (rput_any _ _ _ L v16 2 _ (by omega) (by have := H8.out.2.1; omega) R0 (by have := HN.out; omega)).mono ?_; rintro e w10 ⟨b2, d2, rfl, Q2, hb⟩; replace hb0 := below_call hb0 hb; replace R0 := R0.later hb; replace X := X.later hb; replace K := K.later hb; replace KR := KR.later hb; replace P1 := P1.later hb; replace P2 := P2.later hb; replace P4 := P4.later hb; replace P8 := P8.later hb; replace PW := PW.later hb; replace PX := PX.later hb; replace PY := PY.later hb; replace PR2 := PR2.later hb; replace PJ := PJ.later hb; replace Q1 := Q1.later hb; clear hb) | (go_at_call 20; refine (rput_any _ _ _ L v8 1 _ (by omega) (by have := H8.out.1; omega) R0 (by have := HN.out; omega)).mono ?_; rintro e w10 ⟨b1, d1, rfl, Q1, hb⟩; replace hb0 := below_call hb0 hb; replace R0 := R0.later hb; replace X := X.later hb; replace K := K.later hb; replace KR := KR.later hb; replace P1 := P1.later hb; replace P2 := P2.later hb; replace P4 := P4.later hb; replace P8 := P8.later hb; replace PW := PW.later hb; replace PX := PX.later hb; replace PY := PY.later hb; replace PR2 := PR2.later hb; replace PJ := PJ.later hb; clear hb))
  clear Q1 Q2 Q4 Q8 P1 P4 P8
  have x1 := X.2.1
  have x2 := X.2.2
  go_upto_region 13 with (first | (go_at_call 17; refine (join_nil _).mono ?_; rintro e w14 ⟨az, cz, rfl, PZ, hb⟩; replace hb0 := below_call hb0 hb; replace R0 := R0.later hb; replace X := X.later hb; replace K := K.later hb; replace KR := KR.later hb; replace P2 := P2.later hb; replace PW := PW.later hb; replace PX := PX.later hb; replace PY := PY.later hb; replace PR2 := PR2.later hb; replace PJ := PJ.later hb; replace QW := QW.later hb; replace QJ := QJ.later hb; clear hb) | (go_at_call 18; refine (same_eq _ _ _ _ _ _ _ _ PJ.read QJ.read).mono ?_; rintro e ws ⟨rfl, rfl⟩) | (go_at_call 21; refine (rjoin3 _ _ _ _ _ _ _ _ _ L (L ++ leL v16 2) L _ _ rfl R0 PR2 R0 (by have := HN.out; omega)).mono ?_; rintro e w13 ⟨bj, dj, rfl, QJ, hb⟩; replace hb0 := below_call hb0 hb; replace R0 := R0.later hb; replace X := X.later hb; replace K := K.later hb; replace KR := KR.later hb; replace P2 := P2.later hb; replace PW := PW.later hb; replace PX := PX.later hb; replace PY := PY.later hb; replace PR2 := PR2.later hb; replace PJ := PJ.later hb; replace QW := QW.later hb; clear hb) | (go_at_call 28; refine (rputWord_any _ _ _ L hi lo _ hhi hlo R0 (by have := HN.out; omega)).mono ?_; rintro e w12 ⟨bw, dw, rfl, QW, hb⟩; replace hb0 := below_call hb0 hb; replace R0 := R0.later hb; replace X := X.later hb; replace K := K.later hb; replace KR := KR.later hb; replace P2 := P2.later hb; replace PW := PW.later hb; replace PX := PX.later hb; replace PY := PY.later hb; replace PR2 := PR2.later hb; replace PJ := PJ.later hb; clear hb) | (go_at_call 18; have hq_ := mk1; clear hq_; refine (same_eq _ _ _ _ _ _ _ _ PX.read PY.read).mono ?_; rintro e ws ⟨rfl, rfl⟩) | (go_at_call 18; refine (same_eq _ _ _ _ _ _ _ _ PW.read QW.read).mono ?_; rintro e ws ⟨rfl, rfl⟩; obtain ⟨mk1, _⟩ : ∃ m : Nat, m = 0 := ⟨0, rfl⟩))
  clear x1 x2 QW QJ PZ
  go_upto_region 17 with (first | (go_at_call 29; refine (get8 _ _ _ L _ KR).mono ?_; rintro e ws ⟨rfl, rfl⟩) | (go_at_call 30; refine (get16 _ _ _ L _ KR).mono ?_; rintro e ws ⟨rfl, rfl⟩) | (go_at_call 31; refine (get32 _ _ _ L _ KR).mono ?_; rintro e ws ⟨rfl, rfl⟩) | (go_at_call 32; refine (get64 _ _ _ L _ KR).mono ?_; rintro e ws ⟨rfl, rfl⟩))
  go_upto_region 18 with (first | (go_at_call 33; refine (rget_any _ _ _ L 1 _ (by omega) (by omega) R0).mono ?_; rintro e ws ⟨rfl, rfl⟩))
  go_upto_region 19 with (first | (go_at_call 33; refine (rget_any _ _ _ L 2 _ (by omega) (by omega) R0).mono ?_; rintro e ws ⟨rfl, rfl⟩))
  go_upto_region 20 with (first | (go_at_call 33; refine (rget_any _ _ _ L 4 _ (by omega) (by omega) R0).mono ?_; rintro e ws ⟨rfl, rfl⟩))
  go_upto_region 21 with (first | (go_at_call 33; refine (rget_any _ _ _ L 8 _ (by omega) (by omega) R0).mono ?_; rintro e ws ⟨rfl, rfl⟩))
  go_wp2_with (first | (go_at_call 19; refine (kept_any g n cl _ _ _ _ L _ K R0 (by have := HN.out; omega)).mono ?_; rintro e ws ⟨rfl, rfl⟩))
  go_ret
  exact ⟨rfl, hb0⟩
end Go.Proofs.Ytjncgpekmilpeaa
