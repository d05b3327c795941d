import Derived.Test.YtpajmpfdaihehaaE1
import Derived.Test.YtpajmpfdaihehaaB6
namespace Go.Proofs.Ytpajmpfdaihehaa
open Go.RowKit
set_option linter.unusedVariables false

set_option maxRecDepth 100000 in
set_option maxHeartbeats 1000000 in
theorem among_any (a : Option Addr) (n c : Nat) (A : List Int) (x : Int) (w : World) (hA : Row w a n c (ints A)) (hn : n < 9223372036854775807) :
    Calls Try.prog 12 #[.slice a n c, .int .i64 x] w fun e w' => e = .returned (.bool (decide (x ∈ A))) ∧ w' = w := by
  have la : A.length = n := by have := hA.len; rwa [ints_length] at this
  have HA := hid hA
  clear hA
  obtain ⟨d, hd⟩ : ∃ d, d = decide (x ∈ A) := ⟨_, rfl⟩
  rw [← hd]
  have HD := hid hd
  clear hd
  go_enter Try.func12, Try.ntmps12
  go_wp2
  go_loopw [5] (fun v w' => ∃ (i : Nat), v = .int .i64 (i : Int) ∧ i ≤ n ∧ Hid (x ∉ A.take i) ∧ w = w') (fun k _ => n - (intOf k).toNat)
  case atStart => exact ⟨0, rfl, Nat.zero_le _, by simp [Hid], rfl⟩
  case round =>
    obtain ⟨i, rfl, hi, hx, rfl⟩ := hrel
    by_cases hlt : i < n
    · obtain ⟨b1, o1, rfl, h1⟩ := HA.out.plain (by omega)
      have y1 := h1 i _ (ints_get A i (by omega))
      obtain ⟨y, hy⟩ : ∃ y, y = A[i] := ⟨_, rfl⟩
      rw [← hy] at y1
      have HY := hid hy
      clear h1 hy
      by_cases hxy : y = x
      · have hq : (y == x) = true := by simp [hxy]
        go_wp2
        go_ret
        refine ⟨ret_bool ?_, rfl⟩
        rw [HD.out]
        exact (decide_eq_true (by rw [← hxy, HY.out]; exact List.getElem_mem _)).symm
      · have hq : (y == x) = false := by simp [hxy]
        go_wp2
        refine ⟨⟨i + 1, rfl, by omega, ?_, trivial⟩, by simp [intOf]; omega⟩
        show x ∉ A.take (i + 1)
        rw [take_step A i (by omega), ← HY.out]
        intro hm
        rw [List.mem_append, List.mem_singleton] at hm
        rcases hm with hm | hm
        · exact hx.out hm
        · exact hxy hm.symm
    · obtain rfl : i = n := by omega
      go_wp2
      go_ret
      refine ⟨ret_bool ?_, rfl⟩
      rw [HD.out]
      have := hx.out
      rw [List.take_of_length_le (by omega)] at this
      exact (decide_eq_false this).symm
theorem cell_lit (w : World) (cs : Array Value) (t : TypeId) (i : Nat) : (w.alloc (Obj.cells cs t)).cell? ⟨w.heap.size, i, none⟩ = cs[i]? := by
  unfold World.cell?
  rw [show (w.alloc (Obj.cells cs t)).heap[w.heap.size]? = some (Obj.cells cs t) from heap_alloc_new w _]
  rfl
theorem row_lit (w : World) (L : List Int) : Row (w.alloc (Obj.cells (ints L).toArray 3)) (some ⟨w.heap.size, 0, none⟩) L.length L.length (ints L) :=
  Row.at (by simp [ints]) (Nat.le_refl _) (ints_one L) (fun i v hv => by
    rw [Nat.zero_add, cell_lit, List.getElem?_toArray]
    exact hv)
/-- The document's script. -/
def six : Nat → Op3
  | 0 => (1, 0, 2)
  | 1 => (2, 2, 0)
  | 2 => (2, 2, 3)
  | 3 => (2, 0, 1)
  | 4 => (2, 3, 5)
  | _ => (1, 0, 4)
theorem six_L : playL 6 six 6 = [(2, -1), (0, 2), (3, 2), (1, 0), (5, 3), (4, -1)] := by decide
theorem six_down : tells true [(2, -1), (0, 2), (3, 2), (1, 0), (5, 3), (4, -1)] 2 = [2, 0, 1, 3, 5] := by decide
theorem six_up : tells false [(2, -1), (0, 2), (3, 2), (1, 0), (5, 3), (4, -1)] 1 = [1, 0, 2] := by decide
theorem six_fall : Fl [(2, -1), (0, 2), (3, 2), (1, 0), (5, 3), (4, -1)] 2 = [1, 0, 5, 3, 2] := by decide
theorem six_under : decide ((2 : Int) ∈ U [(2, -1), (0, 2), (3, 2), (1, 0), (5, 3), (4, -1)] 5) = true := by decide
def sixV : Array Value := #[.int .i64 1, .int .i64 0, .int .i64 2, .int .i64 2, .int .i64 2, .int .i64 0, .int .i64 2, .int .i64 2, .int .i64 3, .int .i64 2, .int .i64 0, .int .i64 1, .int .i64 2, .int .i64 3, .int .i64 5, .int .i64 1, .int .i64 0, .int .i64 4]
theorem six_S (w : World) : Ss (w.alloc (Obj.cells sixV 55)) (some ⟨w.heap.size, 0, none⟩) 6 six := by
  intro _
  refine ⟨w.heap.size, 0, rfl, fun i hi => ?_⟩
  rcases i with _ | _ | _ | _ | _ | _ | i
  all_goals first | omega | exact ⟨(cell_lit _ _ _ _).trans rfl, (cell_lit _ _ _ _).trans rfl, (cell_lit _ _ _ _).trans rfl⟩
theorem numbers_true {a b : Option Addr} {n m ca cb : Nat} {A : List Int} {w : World} (hA : Row w a n ca (ints A)) (hB : Row w b m cb (ints A)) (hn : n ≤ 2048) :
    Calls Try.prog 25 #[.slice a n ca, .slice b m cb] w fun e w' => e = .returned (.bool true) ∧ Below w.heap.size w w' := by
  refine (numbers_any a b n m ca cb A A w hA hB (by omega)).mono ?_
  rintro e w' ⟨rfl, k, rfl⟩
  exact ⟨by rw [decide_eq_true rfl], below_drewN (Below.refl _ _) k⟩
theorem lit_same {a : Option Addr} {n c : Nat} {A : List Int} {w : World} (L : List Int) (hA : Row w a n c (ints A)) (e : A = L) (hn : n ≤ 2048) :
    Calls Try.prog 25 #[.slice a n c, .slice (some ⟨w.heap.size, 0, none⟩) L.length L.length] (w.alloc (Obj.cells (ints L).toArray 3)) fun e w' => e = .returned (.bool true) ∧ Below w.heap.size w w' := by
  subst e
  refine (numbers_true (hA.alloc _) (row_lit w A) hn).mono ?_
  rintro e w' ⟨rfl, hb⟩
  exact ⟨rfl, below_call (below1 _ _) hb⟩
theorem ints5 (a b c d e : Int) : (ints [a, b, c, d, e]).toArray = #[.int .i64 a, .int .i64 b, .int .i64 c, .int .i64 d, .int .i64 e] := rfl
theorem ints3 (a b c : Int) : (ints [a, b, c]).toArray = #[.int .i64 a, .int .i64 b, .int .i64 c] := rfl
set_option maxRecDepth 100000 in
set_option maxHeartbeats 1600000 in
theorem alive_any (w : World) : Calls Try.prog 8 #[] w fun e w' => e = .returned (.bool true) ∧ Below w.heap.size w w' := by
  have HF := hid (forest_any 6 (by omega) (some ⟨w.heap.size, 0, none⟩) 6 6 six (w.alloc (Obj.cells sixV 55)) (six_S w) (by omega))
  rw [six_L] at HF
  have hB0 := below1 w (Obj.cells sixV 55)
  unfold sixV at HF hB0
  have HD : Hid (∀ (w1 : World) (g gb : Nat), Ki w1 g gb 6 [(2, -1), (0, 2), (3, 2), (1, 0), (5, 3), (4, -1)] → Calls Try.prog 9 #[.pointer (some ⟨g, 0, none⟩), .int .i64 2] w1 fun e w2 => ∃ a2 c2, e = .returned (.tuple #[.slice a2 5 c2, .bool true]) ∧ Row w2 a2 5 c2 (ints [2, 0, 1, 3, 5]) ∧ Below w1.heap.size w1 w2) := hid (by
    intro w1 g gb hK
    refine (downs_any hK 2).mono ?_
    rintro e w2 ⟨a2, k2, c2, rfl, hO2, hb2⟩
    rw [six_down] at hO2
    have hl2 := hO2.len
    simp [ints] at hl2
    subst hl2
    exact ⟨a2, c2, rfl, hO2.read, hb2⟩)
  have HU : Hid (∀ (w1 : World) (g gb : Nat), Ki w1 g gb 6 [(2, -1), (0, 2), (3, 2), (1, 0), (5, 3), (4, -1)] → Calls Try.prog 14 #[.pointer (some ⟨g, 0, none⟩), .int .i64 1] w1 fun e w2 => ∃ a2 c2, e = .returned (.tuple #[.slice a2 3 c2, .bool true]) ∧ Row w2 a2 3 c2 (ints [1, 0, 2]) ∧ Below w1.heap.size w1 w2) := hid (by
    intro w1 g gb hK
    refine (ups_any hK 1).mono ?_
    rintro e w2 ⟨a2, k2, c2, rfl, hO2, hb2⟩
    rw [six_up] at hO2
    have hl2 := hO2.len
    simp [ints] at hl2
    subst hl2
    exact ⟨a2, c2, rfl, hO2.read, hb2⟩)
  have HL : Hid (∀ (w1 : World) (g gb : Nat), Ki w1 g gb 6 [(2, -1), (0, 2), (3, 2), (1, 0), (5, 3), (4, -1)] → Calls Try.prog 10 #[.pointer (some ⟨g, 0, none⟩), .int .i64 2] w1 fun e w2 => ∃ a2 c2, e = .returned (.slice a2 5 c2) ∧ Row w2 a2 5 c2 (ints [1, 0, 5, 3, 2]) ∧ Below w1.heap.size w1 w2) := hid (by
    intro w1 g gb hK
    refine (fall_any hK 2).mono ?_
    rintro e w2 ⟨a2, k2, c2, rfl, hO2, hb2⟩
    rw [six_fall] at hO2
    have hl2 := hO2.len
    simp [ints] at hl2
    subst hl2
    exact ⟨a2, c2, rfl, hO2.read, hb2⟩)
  have HN : Hid (∀ (w1 : World) (g gb : Nat), Ki w1 g gb 6 [(2, -1), (0, 2), (3, 2), (1, 0), (5, 3), (4, -1)] → Calls Try.prog 15 #[.pointer (some ⟨g, 0, none⟩), .int .i64 2, .int .i64 5] w1 fun e w2 => e = .returned (.bool true) ∧ Below w1.heap.size w1 w2) := hid (by
    intro w1 g gb hK
    have h := under_any hK 2 5
    rw [six_under] at h
    exact h)
  generalize [((2 : Int), (-1 : Int)), (0, 2), (3, 2), (1, 0), (5, 3), (4, -1)] = l at HF HD HU HL HN
  go_enter Try.func8, Try.ntmps8
  go_upto_region 6 with (first | (go_at_call 7; refine HF.out.mono ?_; rintro e w1 ⟨g, gb, r, rfl, hD, hB1, _, _, _⟩; have HK := hid hD.ki; have HB1 := hid (below_call hB0 hB1); clear hD hB1 hB0) | (go_at_call 9; refine (HD.out _ _ _ HK.out).mono ?_; rintro e w2 ⟨a2, c2, rfl, hR2, hb2⟩; have HR2 := hid hR2; have HK2 := hid (HK.out.later hb2); have HB2 := hid (below_call HB1.out hb2); clear hR2 hb2) | (go_at_call 14; refine (HU.out _ _ _ HK2.out).mono ?_; rintro e w3 ⟨a3, c3, rfl, hR3, hb3⟩; have HR3 := hid hR3; have HR2b := hid (HR2.out.later hb3); have HK3 := hid (HK2.out.later hb3); have HB3 := hid (below_call HB2.out hb3); clear hR3 hb3))
  clear HF HD HU HR2 HK HB1 HK2 HB2
  have N1 := hid (lit_same [2, 0, 1, 3, 5] HR2b.out rfl (by omega))
  have N2 := hid (fun (W : World) (hb : Below w3.heap.size w3 W) => lit_same [1, 0, 2] (HR3.out.later hb) rfl (by omega))
  simp only [ints5, ints3, List.length_cons, List.length_nil, Nat.zero_add, Nat.reduceAdd] at N1 N2
  go_wp2_with (first | (have hq_ := N3; clear hq_; go_at_call 25; refine N3.out.mono ?_; rintro e w8 ⟨rfl, hb8⟩; have HB8 := hid (below_call HB7.out hb8); clear hb8) | (have hq_ := HB5; clear hq_; go_at_call 25; refine (N2.out _ HB5.out).mono ?_; rintro e w6 ⟨rfl, hb6⟩; have HK6 := hid (HK5.out.later hb6); have HB6 := hid (below_call HB5w.out hb6); clear hb6) | (go_at_call 25; refine N1.out.mono ?_; rintro e w5 ⟨rfl, hb5⟩; have HB5 := hid hb5; have HK5 := hid (HK3.out.later hb5); have HB5w := hid (below_call HB3.out hb5); clear hb5) | (go_at_call 15; refine (HN.out _ _ _ HK6.out).mono ?_; rintro e wu ⟨rfl, hbu⟩; have HKu := hid (HK6.out.later hbu); have HBu := hid (below_call HB6.out hbu); clear hbu) | (go_at_call 10; refine (HL.out _ _ _ HKu.out).mono ?_; rintro e w7 ⟨a7, c7, rfl, hR7, hb7⟩; have HB7 := hid (below_call HBu.out hb7); have N3 := hid (lit_same [1, 0, 5, 3, 2] hR7 rfl (by omega)); simp only [ints5, List.length_cons, List.length_nil, Nat.zero_add, Nat.reduceAdd] at N3; clear hR7 hb7))
  go_ret
  exact ⟨rfl, HB8.out⟩
end Go.Proofs.Ytpajmpfdaihehaa
