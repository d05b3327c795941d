import Derived.Test.YtaffgoacbiedlaaX1
import Derived.Test.YtaffgoacbiedlaaX2
import Derived.Test.YtaffgoacbiedlaaQ1
namespace Go.Proofs.Ytaffgoacbiedlaa
open Go.RowKit
set_option linter.unusedVariables false
set_option linter.unusedSimpArgs false

theorem und28q : Try.prog.underlying 28 = some (.slice (Try.prog.elem 28)) := by kernel_rfl
theorem el28q : Try.prog.elem 28 = 5 := by kernel_rfl
theorem sz5q (w : World) : (sizeOf 5).run Try.prog w = .ok 1 w := by
  obtain ⟨i, hi, hz0, hz1, hz2⟩ := info_parts info5
  simp [sizeOf, typeInfo, hi, hz1]
theorem Bx.putq {w : World} {b j : Nat} {L : List Value} (h : Bx w b L) (hj : j < L.length) (v : Value) : Bx (w.setCell ⟨b, j, none⟩ v) b (L.set j v) := by
  obtain ⟨v0, hv0⟩ := Option.isSome_iff_exists.1 (h.there j hj).1
  rw [Nat.zero_add] at hv0
  refine ⟨fun k u hu => ?_, fun k hk => ?_⟩
  · rw [Nat.zero_add]
    by_cases e : k = j
    · subst e
      rw [List.getElem?_set_self hj] at hu
      cases hu
      simp [go_sem, hv0]
    · rw [List.getElem?_set_ne (Ne.symm e)] at hu
      have := h.cell k hu
      simpa [go_sem, e] using this
  · rw [List.length_set] at hk
    obtain ⟨h1, h2⟩ := h.there k hk
    exact ⟨World.isSome_setCells b [v] j _ _ h1, by rw [← h2]; simp⟩
set_option maxRecDepth 100000 in
set_option maxHeartbeats 4000000 in
theorem sameQ (L M : List Value) (r : Rp) (w : World) (h : Rr w L r) (h2 : Rr w M r) : Calls Try.prog 13 #[.agg L.toArray, .agg M.toArray] w fun e w' => e = .returned (.bool true) ∧ Below w.heap.size w w' := by
  obtain ⟨⟨da, dn, dc⟩, rfl, hd, _, _⟩ := h.ex
  obtain ⟨⟨ea, en, ec⟩, rfl, he, _, _⟩ := h2.ex
  obtain ⟨code, obj, hi, lo, D, number⟩ := r
  have q1 := eqlC obj hi lo obj hi lo
  have q2 : cEq obj hi lo obj hi lo = true := by unfold cEq; simp
  have cv1 : (convert 28 9 (.slice da dn dc)).run Try.prog ((w.alloc (Obj.cells #[.int .i64 code, .int .i64 obj, .int .u64 (hi : Int), .int .u64 (lo : Int), .slice da dn dc, .int .i64 number] 30)).alloc (Obj.cells #[.int .i64 code, .int .i64 obj, .int .u64 (hi : Int), .int .u64 (lo : Int), .slice ea en ec, .int .i64 number] 30)) = .ok (.string (strB D)) _ := (hd.later (below2 _ _ _)).conv
  have cv2 : (convert 28 9 (.slice ea en ec)).run Try.prog ((w.alloc (Obj.cells #[.int .i64 code, .int .i64 obj, .int .u64 (hi : Int), .int .u64 (lo : Int), .slice da dn dc, .int .i64 number] 30)).alloc (Obj.cells #[.int .i64 code, .int .i64 obj, .int .u64 (hi : Int), .int .u64 (lo : Int), .slice ea en ec, .int .i64 number] 30)) = .ok (.string (strB D)) _ := (he.later (below2 _ _ _)).conv
  clear hd he h h2
  simp only [rC, Sl.v]
  go_enter Try.func13, Try.ntmps13
  go_wp2
  go_ret
  exact ⟨rfl, below2 _ _ _⟩
theorem rzq (w : World) : Rr w z30 (rpz 0) := ⟨Sl.nil, rfl, row_nil _, by simp [rpz], by simp [rpz]⟩
theorem into_is (n top : Int) (w : World) (h : 0 < top) (h2 : top ≤ 4611686018427387904) {v : Int} (hv : n % top = v) : Calls Try.prog 9 #[.int .i64 n, .int .i64 top] w fun e w' => e = .returned (.int .i64 v) ∧ w' = w := by
  subst hv
  exact into_any n top w h h2
theorem slice_hi (a : Option Addr) (n c i : Nat) (h : i ≤ c) (w : World) : (Instr.sliceAt 28 (.slice a n c) none (some (.int .i64 (i : Int))) none).run Try.prog w = .ok (.slice a i c) w := by
  rw [run_sliceAt_slice _ _ _ _ _ _ und28q, run_slice_h _ _ _ _ _ und28q _ _ (by omega) (by omega), el28q, sz5q]
  simp [sliced]
  cases a <;> simp [Addr.add]
theorem Row.take {w : World} {a : Option Addr} {n cap : Nat} {L : List Nat} (h : Row w a n cap L) (i : Nat) (hi : i ≤ n) (hz : a = none → i = 0 ∧ cap = 0 := by (intro e; cases e)) : Row w a i cap (L.take i) := by
  have hl := h.len
  have hc := h.cap_
  refine ⟨by rw [List.length_take]; omega, by omega, fun e => hz e, fun x hx j u hu => ?_, fun x hx => h.small x (List.mem_of_mem_take hx)⟩
  refine h.cells x hx j u ?_
  rw [← hu]
  have hj : j < i := by
    have := (List.getElem?_eq_some_iff.1 hu).1
    simp [u8s] at this
    omega
  simp [u8s, List.getElem?_take, hj]
theorem Own.empty (w : World) : Own (w.alloc (Obj.cells #[] 5)) w.heap.size (some ⟨w.heap.size, 0, none⟩) 0 0 [] :=
  ⟨⟨rfl, .inr ⟨_, _, _, rfl, Nat.le_refl _, heap_alloc_new w _, Nat.le_refl _, by unfold maxLen; omega, rfl, rfl⟩⟩, fun _ h => (by cases h)⟩
theorem Row.none_len {w : World} {a : Option Addr} {n cap : Nat} {L : List Nat} (h : Row w a n cap L) (i : Nat) (hi : i ≤ n) : a = none → i = 0 ∧ cap = 0 := fun e => by have := h.none_ e; omega
end Go.Proofs.Ytaffgoacbiedlaa
