import Derived.Test.YtlkjieophdabpaaB1
import Derived.Deep.LoopGhost
namespace Go.Proofs.Ytlkjieophdabpaa
open Go.Shelf Go.RowKit Go.Sort
set_option linter.unusedVariables false

theorem own_cells {w : World} {base g n cap : Nat} {L : List Int} (h : Own w base 3 (some ⟨g, 0, none⟩) n cap (ints L)) : ∀ j, j < L.length → w.cell? ⟨g, 0 + j, none⟩ = some (.int .i64 (L.getD j 0)) := fun j hj => by
  have h1 := h.read.cells _ rfl j _ (ints_get L j hj)
  rw [addr_add] at h1
  rw [h1]
  simp [List.getD, hj]
theorem own_len {w : World} {base n cap : Nat} {a : Option Addr} {L : List Int} (h : Own w base 3 a n cap (ints L)) : L.length = n := by have := h.len; rwa [ints_length] at this
theorem own_nil {w : World} {base n cap : Nat} {L : List Int} (h : Own w base 3 none n cap (ints L)) : n = 0 ∧ cap = 0 ∧ L = [] := by
  have h1 := h.read.none_ rfl
  exact ⟨h1.1, h1.2, List.eq_nil_of_length_eq_zero (by rw [own_len h]; exact h1.1)⟩
theorem own_spot {w : World} {base n cap : Nat} {a : Addr} {L : List Value} (h : Own w base 3 (some a) n cap L) : ∃ g, a = ⟨g, 0, none⟩ := by
  rcases h.row.2 with ⟨h1, h2⟩ | ⟨g, c, cur, hv, _⟩
  · simp at h1
  · simp only [Value.slice.injEq, Option.some.injEq] at hv
    exact ⟨g, hv.1⟩
set_option maxRecDepth 100000 in
set_option maxHeartbeats 1000000 in
theorem search_nil (x : Int) (w : World) : Calls Try.prog 31 #[.slice none 0 0, .int .i64 x] w fun e w' => e = .returned (.tuple #[.int .i64 0, .bool false]) ∧ ∃ q, w' = w.drewN q := by
  go_enter Try.func31, Try.ntmps31
  go_wp2
  go_loopw [7, 8] (fun s t w' => s = .int .i64 0 ∧ t = .int .i64 0 ∧ w = w') (fun _ _ _ => 0)
  case atStart => exact ⟨rfl, rfl, rfl⟩
  case round =>
    obtain ⟨rfl, rfl, rfl⟩ := hrel
    go_wp2
    exact bodyPost_ret (v := .tuple #[.int .i64 0, .bool false]) (by simp [results, Try.results31, go_sem]) rfl ⟨rfl, 0, rfl⟩
theorem search_any {w : World} {base n cap : Nat} {a : Option Addr} {L : List Int} (h : Own w base 3 a n cap (ints L)) (hn : n < 4611686018427387904) (hs : L.Pairwise (· ≤ ·)) (x : Int) :
    Calls Try.prog 31 #[.slice a n cap, .int .i64 x] w fun e w' => e = .returned (.tuple #[.int .i64 (L.countP (· < x) : Nat), .bool (L.contains x)]) ∧ ∃ q, w' = w.drewN q := by
  cases a with
  | none =>
    obtain ⟨rfl, rfl, rfl⟩ := own_nil h
    exact search_nil x w
  | some p =>
    obtain ⟨g, rfl⟩ := own_spot h
    have hl := own_len h
    have h2 := Any.slices_BinarySearch_int lay25 g 0 n cap L x w (by omega) hn (own_cells h) (by rw [List.take_of_length_le (by omega)]; exact hs)
    rw [List.take_of_length_le (by omega)] at h2
    exact h2
set_option maxRecDepth 100000 in
set_option maxHeartbeats 1000000 in
theorem insert_end {w : World} {base n cap : Nat} {a : Option Addr} {L : List Int} (h : Own w base 3 a n cap (ints L)) (hb : base ≤ w.heap.size) (hn : n ≤ 4096) (x : Int) :
    Calls Try.prog 32 #[.slice a n cap, .int .i64 n, .slice (some ⟨w.heap.size, 0, none⟩) 1 1] (w.alloc (Obj.cells #[.int .i64 x] 3)) fun e w' => ∃ a' cap', e = .returned (.slice a' (n + 1) cap') ∧ Own w' base 3 a' (n + 1) cap' (ints (L ++ [x])) ∧ Gr a a' w w' := by
  have hc := h.read.cap_
  have hm : cap ≤ maxLen := by
    rcases h.row.2 with ⟨h1, h2⟩ | ⟨g, c, cur, hv, _, _, _, h4, _⟩
    · simp only [Value.slice.injEq] at h1; unfold maxLen; omega
    · simp only [Value.slice.injEq] at hv; omega
  unfold maxLen at hm
  obtain ⟨a', cap', w', hrun, hO, hG⟩ := append_one x (.inl h) hb (by omega)
  have HRUN := hid hrun
  have HO := hid hO
  have HG := hid hG
  clear hrun hO hG h
  obtain ⟨w1, hw1⟩ : ∃ w1, w1 = w.alloc (Obj.cells #[.int .i64 x] 3) := ⟨_, rfl⟩
  obtain ⟨vb, hvb⟩ : ∃ vb, vb = w.heap.size := ⟨_, rfl⟩
  rw [← hw1, ← hvb] at HRUN
  rw [← hw1, ← hvb]
  clear hw1 hvb
  go_enter Try.func32, Try.ntmps32
  go_wp2_with (first | (at_builtin; refine wpList_append_known rfl _ _ 22 rfl _ _ rfl rfl _ w' HRUN.out ?_))
  all_goals
    go_ret
    exact ⟨a', cap', rfl, HO.out, HG.out⟩
theorem Own.cut {w : World} {base : Nat} {e : TypeId} {g n cap m : Nat} {L : List Value} (h : Own w base e (some ⟨g, 0, none⟩) n cap L) (hm : m ≤ n) : Own w base e (some ⟨g, 0, none⟩) m cap (L.take m) := by
  have hl := h.len
  refine ⟨⟨by rw [List.length_take]; omega, ?_⟩, fun u hu => h.one u (List.mem_of_mem_take hu)⟩
  rcases h.row.2 with ⟨h1, h2⟩ | ⟨g', c, cur, hv, h1, h2, h3, h4, h5, h6⟩
  · simp at h1
  · simp only [Value.slice.injEq] at hv
    obtain ⟨hg, _, rfl⟩ := hv
    refine .inr ⟨g', cap, cur, by rw [hg], h1, h2, by omega, h4, h5, ?_⟩
    rw [← h6, List.take_take]
    congr 1
    omega
theorem grow_none (W : World) : grow W #[] = W := by simp [grow]
theorem delete_own {w : World} {base g n cap : Nat} {L : List Int} (h : Own w base 3 (some ⟨g, 0, none⟩) n cap (ints L)) (i : Nat) (hi : i < n) :
    Calls Try.prog 33 #[.slice (some ⟨g, 0, none⟩) n cap, .int .i64 (i : Nat), .int .i64 (i + 1 : Nat)] w fun e w' => e = .returned (.slice (some ⟨g, 0, none⟩) (n - 1) cap) ∧ Own w' base 3 (some ⟨g, 0, none⟩) (n - 1) cap (ints (L.take i ++ L.drop (i + 1))) ∧ But (fun k => k = g) w w' := by
  have hl := own_len h
  subst hl
  rcases h.row.2 with ⟨h1, _⟩ | ⟨g', c, cur, hv, hg, hh, h1, h2, h3, h4⟩
  · simp at h1
  · simp only [Value.slice.injEq, Option.some.injEq] at hv
    obtain ⟨hg1, _, rfl⟩ := hv
    obtain rfl : g = g' := by simpa using hg1
    have hH : Holds (Value.int .i64) w g 0 L.toArray := holds_of_blockI hh (by simpa [ints] using h4)
    have hd := Any.slices_Delete_int lay23 g 0 cap i (i + 1) L w hH h1 (by unfold maxLen at h2; omega) (by omega) (by omega)
    refine hd.mono ?_
    rintro e w' ⟨rfl, q, rfl⟩
    have hone : i + 1 - i = 1 := by omega
    rw [hone]
    have hlen : (L.take i ++ L.drop (i + 1) ++ List.replicate 1 0).length = L.length := by simp; omega
    have ho : Own (putRow (Value.int .i64) (Sort.ahead w q) g 0 (L.take i ++ L.drop (i + 1) ++ List.replicate 1 0).toArray) base 3 (some ⟨g, 0, none⟩) L.length cap (ints (L.take i ++ L.drop (i + 1) ++ List.replicate 1 0)) := by
      have := ownsRow_sortedI (n := q) (os := #[]) hlen hg hh h1 h2 h3
      rw [grow_none] at this
      exact ⟨this, ints_one _⟩
    have hg2 : w.grownBy (putRow (Value.int .i64) (Sort.ahead w q) g 0 (L.take i ++ L.drop (i + 1) ++ List.replicate 1 0).toArray) (some g) := by
      have := grownBy_sortedI (w := w) (g := g) (n := q) (os := #[]) (L.take i ++ L.drop (i + 1) ++ List.replicate 1 0).toArray
      rw [grow_none] at this
      exact this
    refine ⟨rfl, ?_, ⟨hg2.os, hg2.tape, hg2.output, hg2.size, fun k hk hn => hg2.block k hk (fun e => hn (by simpa using e))⟩⟩
    have hcut := ho.cut (m := L.length - 1) (by omega)
    rw [ints_append, List.take_left' (by rw [ints_length]; simp; omega)] at hcut
    exact hcut
theorem clone_own {w : World} {base n cap : Nat} {a : Option Addr} {L : List Int} (h : Own w base 3 a n cap (ints L)) (hn : n ≤ 4096) :
    Calls Try.prog 34 #[.slice a n cap] w fun e w' => ∃ p c, e = .returned (.slice p n c) ∧ Own w' w.heap.size 3 p n c (ints L) ∧ Below w.heap.size w w' := by
  cases a with
  | none =>
    obtain ⟨rfl, rfl, rfl⟩ := own_nil h
    refine (Any.slices_Clone_int_nil lay15 0 0 w).mono ?_
    rintro e w' ⟨rfl, rfl⟩
    exact ⟨none, 0, rfl, Own.nil _ _ _, Below.refl _ _⟩
  | some p =>
    obtain ⟨g, rfl⟩ := own_spot h
    have hl := own_len h
    refine (Any.slices_Clone_int lay15 g 0 n cap L w (by omega) (by omega) (own_cells h)).mono ?_
    rintro e w' ⟨v', rfl, ho, _, hb⟩
    rw [List.take_of_length_le (by omega)] at ho
    rcases ho.2 with ⟨h1, h2⟩ | ⟨g', c, cur, hv, h3⟩
    · subst h1
      exact ⟨none, 0, by rw [h2], ⟨by rw [h2] at ho ⊢; exact ho, ints_one _⟩, hb⟩
    · subst hv
      exact ⟨_, c, rfl, ⟨ho, ints_one _⟩, hb⟩
end Go.Proofs.Ytlkjieophdabpaa
