import Derived.Test.YtcknjglpgfkaiaaC1
namespace Go.Proofs.Ytcknjglpgfkaiaa
open Go.RowKit

theorem append_lit {w : World} {base n cap : Nat} {a : Option Addr} {L : List Nat} {b : Nat} {x : Int} (hx : x = (b : Int)) (h : Own w base a n cap L) (hb : base ≤ w.heap.size) (hr : n + 1 ≤ 140737488355328) (hb8 : b < 256) :
    ∃ a' cap' w', (Builtin.append_ #[30, 30] 30 #[.slice a n cap, .slice (some ⟨w.heap.size, 0, none⟩) 1 1]).run Try.prog (w.alloc (Obj.cells #[Value.int .u8 x] 5)) = .ok (.slice a' (n + 1) cap') w' ∧ Own w' base a' (n + 1) cap' (L ++ [b]) ∧ Gr a a' w w' := by
  subst hx
  obtain ⟨a', cap', w', h1, h2, h4⟩ := append_any (h.alloc (Obj.cells #[Value.int .u8 (b : Int)] 5)) (Row.one w b hb8) (by simp; omega) hr
  exact ⟨a', cap', w', h1, h2, h4.pre (below1 _ _)⟩
theorem conv_row {w : World} {a : Option Addr} {n cap : Nat} {L : List Nat} (h : Row w a n cap L) (hn : 0 < n) :
    (convert 30 9 (.slice a n cap)).run Try.prog w = .ok (.string (strB L)) w := by
  obtain ⟨b, o, rfl, hc⟩ := h.plain hn
  have hl : (L.map UInt8.ofNat).length = n := by simp [h.len]
  have := run_convert_bytes_back (P := Try.prog) w 30 9 5 ⟨b, o, none⟩ cap (L.map UInt8.ofNat) Try.underlying30 Try.underlying5 Try.underlying9 (fun j hj => by
    rw [hl] at hj
    have hj' : j < L.length := by rw [h.len]; exact hj
    rw [addr_add, hc j hj']
    have e3 := h.small _ (List.getElem_mem hj')
    simp [Nat.mod_eq_of_lt e3])
  rw [hl] at this
  exact this

def NamesRel (w : World) (n : Nat) (o t : Value) (w' : World) : Prop :=
  ∃ (k : Nat) (a : Option Addr) (cap : Nat), k ≤ 5 ∧ t = .int .i64 (k : Int) ∧ o = .slice a (nameL n k).length cap ∧ Own w' w.heap.size a (nameL n k).length cap (nameL n k) ∧ Below w.heap.size w w'
theorem names_start (w : World) (n : Nat) : NamesRel w n (.slice none 0 0) (.int .i64 0) w := ⟨0, none, 0, by omega, rfl, rfl, Own.nil _ _, Below.refl _ _⟩
theorem name_some : ∀ n, n < 32 → 1 ≤ n → 0 < (nameL n 5).length := by decide +kernel
theorem nameL_yes {n k : Nat} (h : hasB n k = true) : nameL n (k + 1) = nameL n k ++ [letN k] := by rw [nameL, h]; rfl
theorem nameL_no {n k : Nat} (h : hasB n k = false) : nameL n (k + 1) = nameL n k := by rw [nameL, h]; simp

theorem let_small : ∀ k, k < 5 → letN k < 256 := by decide
theorem let_at (k : Nat) (hk : k < (⟨#[114, 119, 100, 118, 120]⟩ : ByteArray).size) : (((⟨#[114, 119, 100, 118, 120]⟩ : ByteArray)[k].toNat : Nat) : Int) = ((letN k : Nat) : Int) := by
  have hk5 : k < 5 := hk
  obtain rfl | rfl | rfl | rfl | rfl : k = 0 ∨ k = 1 ∨ k = 2 ∨ k = 3 ∨ k = 4 := by omega
  all_goals rfl
/-- A letter more. -/
theorem names_more {w wr : World} {n k : Nat} {a : Option Addr} {cap : Nat} {x : Int} (hx : x = ((letN k : Nat) : Int)) (hk : k < 5) (hs : letN k < 256) (h : hasB n k = true) (ho : Own wr w.heap.size a (nameL n k).length cap (nameL n k)) (hB : Below w.heap.size w wr) :
    ∃ a' cap' w', (Builtin.append_ #[30, 30] 30 #[.slice a (nameL n k).length cap, .slice (some ⟨wr.heap.size, 0, none⟩) 1 1]).run Try.prog (wr.alloc (Obj.cells #[Value.int .u8 x] 5)) = .ok (.slice a' ((nameL n k).length + 1) cap') w' ∧ NamesRel w n (.slice a' ((nameL n k).length + 1) cap') (.int .i64 ((k : Int) + 1)) w' := by
  have hl := nameL_len n k
  obtain ⟨a2, c2, w2, hrun, hown2, hB2⟩ := append_lit hx ho hB.size (by omega) hs
  have e : (nameL n (k + 1)).length = (nameL n k).length + 1 := by rw [nameL_yes h]; simp
  refine ⟨a2, c2, w2, hrun, k + 1, a2, c2, by omega, rfl, by rw [e], ?_, hB.trans (hB2.below ho hB.size)⟩
  rw [e, nameL_yes h]
  exact hown2

set_option maxRecDepth 100000 in
set_option maxHeartbeats 1000000 in
theorem names_valid (n : Nat) (w : World) (h0 : 1 ≤ n) (hn : n < 32) :
    Calls Try.prog 8 #[.int .i64 (n : Int)] w fun e w' => e = .returned (.string (strB (nameL n 5))) ∧ Below w.heap.size w w' := by
  have HS : Hid (NamesRel w n (.slice none 0 0) (.int .i64 0) w) := names_start w n
  have hv := valid_of h0 hn
  have hz : ((n : Int) == 0) = false := by simp; omega
  go_enter Try.func8, Try.ntmps8
  go_wp2_with (first | (go_at_call 10; refine (valid_any _ _).mono ?_; rintro e w1 ⟨rfl, rfl⟩))
  rename World => w
  go_loopw [3, 10] (NamesRel w n) (fun _ t _ => 5 - (intOf t).toNat)
  case atStart => exact HS.out
  case round =>
    clear HS
    obtain ⟨k, a, cap, hk, rfl, rfl, hown, hB⟩ := hrel
    by_cases hlt : k < 5
    · have hd : decide ((k : Int) < 5) = true := by simp; omega
      obtain ⟨p, hp⟩ : ∃ p, p = 2 ^ k := ⟨_, rfl⟩
      have hp32 : p < 32 := by rw [hp]; exact Nat.lt_of_le_of_lt (Nat.pow_le_pow_right (by omega) (show k ≤ 4 by omega)) (by decide)
      have hand := i64_and_nat n p hn hp32
      have hha := has_and n hn k hlt
      rw [← hp] at hha
      obtain ⟨q, hq⟩ : ∃ q, q = n &&& p := ⟨_, rfl⟩
      rw [← hq] at hand hha
      have HP : Hid (p = 2 ^ k) := hp
      clear hp hp32
      by_cases hb : hasB n k = true
      · have hq0 : ((q : Int) == 0) = false := by
          rw [hb] at hha
          have := of_decide_eq_false hha
          simp
          omega
        have hks : k < (⟨#[114, 119, 100, 118, 120]⟩ : ByteArray).size := hlt
        obtain ⟨a2, c2, w2, hrun, hrel2⟩ := names_more (let_at k hks) hlt (let_small k hlt) hb hown hB
        have HRUN : Hid _ := hrun
        have HR : Hid _ := hrel2
        clear hrun hrel2 hown hB hha hq hb
        go_wp2_with (first | (go_at_call 16; refine (rightAt_any k p _ hlt HP.out).mono ?_; rintro e w1 ⟨rfl, rfl⟩) | (at_builtin; refine wpList_append_known rfl _ _ 30 rfl _ _ rfl rfl _ w2 HRUN.out ?_))
        go_roundw
        case rel => exact HR.out
        case measure => simp [intOf]; omega
      · have hb : hasB n k = false := by simpa using hb
        have hq0 : ((q : Int) == 0) = true := by
          rw [hb] at hha
          have := of_decide_eq_true hha
          simp
          omega
        have HR : Hid (NamesRel w n (.slice a (nameL n k).length cap) (.int .i64 ((k : Int) + 1)) wr) := ⟨k + 1, a, cap, by omega, rfl, by rw [nameL_no hb], by rw [nameL_no hb]; exact hown, hB⟩
        clear hown hB hha hq hb
        go_wp2_with (first | (go_at_call 16; refine (rightAt_any k p _ hlt HP.out).mono ?_; rintro e w1 ⟨rfl, rfl⟩))
        go_roundw
        case rel => exact HR.out
        case measure => simp [intOf]; omega
    · obtain rfl : k = 5 := by omega
      have hcv := conv_row hown.read (name_some n hn h0)
      simp only [Int.cast_ofNat_Int]
      go_wp2
      go_ret
      exact ⟨rfl, hB⟩
end Go.Proofs.Ytcknjglpgfkaiaa
