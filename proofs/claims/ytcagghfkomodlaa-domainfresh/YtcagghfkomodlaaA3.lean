import Derived.Test.YtcagghfkomodlaaA2
namespace Go.Proofs.Ytcagghfkomodlaa
open Go.RowKit
set_option linter.unusedVariables false

/-! ### copy, clear, make, slices, at elements of k cells -/
theorem run_copy_k {P : Program} (w : World) (dT sT ty elem : TypeId) (k b o dLen dCap : Nat) (a : Addr) (sLen sCap : Nat) (cs : List Value)
    (hu : P.underlying dT = some (.slice elem)) (hs : (P.info? elem).map (·.size) = some k) (hn : cs.length = Nat.min sLen dLen * k)
    (hsrc : ∀ j v, cs[j]? = some v → w.cell? (a.add j) = some v) (hc : ∀ j, j < cs.length → (w.cell? ⟨b, o + j, none⟩).isSome = true) (hf : ∀ j, j < cs.length → w.frozen? ⟨b, o + j, none⟩ = false) (h1 : ∀ v ∈ cs, v.oneCell' = true) :
    (Builtin.copy_ #[dT, sT] ty #[.slice (some ⟨b, o, none⟩) dLen dCap, .slice (some a) sLen sCap]).run P w = .ok (goInt (Nat.min sLen dLen)) (w.setCells b o cs) := by
  have hl := run_loadCells_list (P := P) w a cs hsrc
  have hst := run_storeCells_cells (P := P) b o cs 0 w (by simpa using hc) (by simpa using hf) h1
  cases hq : P.info? elem with
  | none => simp [hq] at hs
  | some i =>
    have hi : i.size = k := by simpa [hq] using hs
    simp [Builtin.copy_, run_underlying hu, Builtin.lenOf, Builtin.firstCells, sizeOf, typeInfo, hq, hi, ← hn, hl, hst]
theorem run_copy_nil_k {P : Program} (w : World) (dT sT ty elem : TypeId) (k : Nat) (d a : Option Addr) (dLen dCap sLen sCap : Nat) (hu : P.underlying dT = some (.slice elem)) (hs : (P.info? elem).map (·.size) = some k) (hn : Nat.min sLen dLen = 0) :
    (Builtin.copy_ #[dT, sT] ty #[.slice d dLen dCap, .slice a sLen sCap]).run P w = .ok (goInt 0) w := by
  cases hq : P.info? elem with
  | none => simp [hq] at hs
  | some i =>
    have hl : ∀ (x : Addr), (loadCells x 0).run P w = .ok #[] w := fun x => by simpa using run_loadCells_list (P := P) w x [] (by simp)
    cases d <;> cases a <;> simp [Builtin.copy_, run_underlying hu, Builtin.lenOf, Builtin.firstCells, sizeOf, typeInfo, hq, hn, storeCells, hl]
theorem size35 : (Try.prog.info? 35).map (·.size) = some 3 := by
  obtain ⟨i, hi, hz0, hz1, hz2⟩ := info_parts info35
  rw [hi]
  simp [hz1]
/-- One capability is wiped. -/
theorem run_clear_one (w : World) (ty : TypeId) (b o c : Nat) (hc : ∀ j, j < 3 → (w.cell? ⟨b, o + j, none⟩).isSome = true) (hf : ∀ j, j < 3 → w.frozen? ⟨b, o + j, none⟩ = false) :
    (Builtin.clear_ #[22] ty #[.slice (some ⟨b, o, none⟩) 1 c]).run Try.prog w = .ok (.tuple #[]) (w.setCells b o (encC (0, 0, 0))) := by
  obtain ⟨i, hi, hz0, hz1, hz2⟩ := info_parts info35
  have hv : (zeroValue 35).run Try.prog w = .ok (.agg #[.int .i64 0, .int .u64 0, .int .u64 0]) w := by
    simp [zeroValue, typeInfo, hi, hz0]
  have hst := run_storeCells_cells (P := Try.prog) b o (encC (0, 0, 0)) 0 w (by simpa [encC] using hc) (by simpa [encC] using hf) (encC_one _)
  simp only [Nat.add_zero] at hst
  have hzc : (Builtin.zeroCells (Value.agg #[.int .i64 0, .int .u64 0, .int .u64 0]).cells 1).toList = encC (0, 0, 0) := by
    simp [Builtin.zeroCells, Value.cells, encC, Array.range]
  simp [Builtin.clear_, run_underlying Try.underlying22, hv, hzc, hst]
/-- The cells from o on, set one by one. -/
def setL (L : List Value) : Nat → List Value → List Value
  | _, [] => L
  | o, v :: r => setL (L.set o v) (o + 1) r
theorem setL_eq : ∀ (vs : List Value) (L : List Value) (o : Nat), o + vs.length ≤ L.length → setL L o vs = L.take o ++ vs ++ L.drop (o + vs.length)
  | [], L, o, h => by simp [setL]
  | v :: r, L, o, h => by
    rw [setL, setL_eq r _ _ (by simp at h ⊢; omega)]
    simp at h
    rw [List.take_set, List.drop_set_of_lt (by omega)]
    have e : (L.take (o + 1)).set o v = L.take o ++ [v] := by
      apply List.ext_getElem?
      intro j
      rw [List.getElem?_set]
      rcases Nat.lt_trichotomy j o with h1 | h1 | h1
      · rw [if_neg (by omega), List.getElem?_take_of_lt (by omega), List.getElem?_append_left (by simp; omega), List.getElem?_take_of_lt h1]
      · subst h1
        rw [if_pos rfl, if_pos (by simp; omega), List.getElem?_append_right (by simp; omega)]
        simp
        have : j - min j L.length = 0 := by omega
        simp [this]
      · rw [if_neg (by omega), List.getElem?_eq_none (by simp; omega), List.getElem?_eq_none (by simp; omega)]
    rw [e]
    simp
    congr 1
    omega
theorem Ow.setCells {base : Nat} {e : TypeId} {k g n cap : Nat} : ∀ (vs : List Value) (o : Nat) (w : World) (L : List Value), Ow w base e k (some ⟨g, 0, none⟩) n cap L → Ow (w.setCells g o vs) base e k (some ⟨g, 0, none⟩) n cap (setL L o vs)
  | [], _, _, _, h => h
  | v :: r, o, w, L, h => Ow.setCells r (o + 1) _ _ (h.set1 o v)
/-- Its first m alone. -/
theorem Ow.shrink {w : World} {base : Nat} {e : TypeId} {k g n cap m : Nat} {L : List Value} (h : Ow w base e k (some ⟨g, 0, none⟩) n cap L) (hm : m ≤ n) : Ow w base e k (some ⟨g, 0, none⟩) m cap (L.take (m * k)) := by
  have hmk : m * k ≤ n * k := Nat.mul_le_mul_right k hm
  refine ⟨by rw [List.length_take, h.1]; omega, ?_⟩
  rcases h.2 with ⟨h1, _⟩ | ⟨g', c, cur, hv, hb, hh, h2, h3, h4, h5⟩
  · simp at h1
  · simp only [Value.slice.injEq, Option.some.injEq, Addr.mk.injEq] at hv
    obtain ⟨⟨rfl, _⟩, _, rfl⟩ := hv
    refine .inr ⟨g, cap, cur, rfl, hb, hh, by omega, h3, h4, ?_⟩
    rw [← h5, List.take_take]
    congr 1
    omega
/-- There are cells up to its end. -/
theorem Ow.some_ {w : World} {base : Nat} {e : TypeId} {k g n cap : Nat} {L : List Value} (h : Ow w base e k (some ⟨g, 0, none⟩) n cap L) {j : Nat} (hj : j < n * k) : (w.cell? ⟨g, j, none⟩).isSome = true := by
  have hl : j < L.length := by rw [h.1]; exact hj
  have := h.rv g rfl j L[j] (List.getElem?_eq_getElem hl)
  rw [this]
  rfl
theorem Ow.fr {w : World} {base : Nat} {e : TypeId} {k g n cap : Nat} {L : List Value} (h : Ow w base e k (some ⟨g, 0, none⟩) n cap L) (j : Nat) : w.frozen? ⟨g, j, none⟩ = false := by
  rcases h.form with ⟨h1, _⟩ | ⟨g', h1, h2, _⟩
  · cases h1
  · cases h1; exact h2 j
theorem caps_append (K M : List Cp) : caps (K ++ M) = caps K ++ caps M := by simp [caps]
theorem caps_length (K : List Cp) : (caps K).length = K.length * 3 := by
  induction K with
  | nil => rfl
  | cons a r ih =>
    have e : caps (a :: r) = encC a ++ caps r := by simp [caps]
    rw [e, List.length_append, ih]
    simp [encC]
    omega
theorem caps_take : ∀ (K : List Cp) (i : Nat), (caps K).take (i * 3) = caps (K.take i)
  | [], i => by simp [caps]
  | x :: K, 0 => by simp [caps]
  | x :: K, i + 1 => by
    have ih := caps_take K i
    have e : (i + 1) * 3 = i * 3 + 1 + 1 + 1 := by omega
    have e1 : ∀ (y : Cp) (M : List Cp), caps (y :: M) = .int .i64 y.1 :: .int .u64 (y.2.1 : Int) :: .int .u64 (y.2.2 : Int) :: caps M := fun y M => by simp [caps, encC]
    rw [List.take_succ_cons, e1, e1, e, List.take_succ_cons, List.take_succ_cons, List.take_succ_cons, ih]
theorem caps_drop : ∀ (K : List Cp) (i : Nat), (caps K).drop (i * 3) = caps (K.drop i)
  | [], i => by simp [caps]
  | x :: K, 0 => by simp [caps]
  | x :: K, i + 1 => by
    have ih := caps_drop K i
    have e : (i + 1) * 3 = i * 3 + 1 + 1 + 1 := by omega
    have e1 : ∀ (y : Cp) (M : List Cp), caps (y :: M) = .int .i64 y.1 :: .int .u64 (y.2.1 : Int) :: .int .u64 (y.2.2 : Int) :: caps M := fun y M => by simp [caps, encC]
    rw [List.drop_succ_cons, e1, e, List.drop_succ_cons, List.drop_succ_cons, List.drop_succ_cons, ih]
theorem setL_caps (K M : List Cp) (i : Nat) (h : i + M.length ≤ K.length) : setL (caps K) (i * 3) (caps M) = caps (K.take i ++ M ++ K.drop (i + M.length)) := by
  rw [setL_eq _ _ _ (by rw [caps_length, caps_length]; omega), caps_take, caps_length, show i * 3 + M.length * 3 = (i + M.length) * 3 by omega, caps_drop, caps_append, caps_append]
/-- A list of n zeros. -/
theorem make_caps (w : World) (n : Nat) (hn : n ≤ 1024) :
    ∃ w', (Instr.makeSlice 22 (.int .i64 (n : Int)) (.int .i64 (n : Int))).run Try.prog w = .ok (.slice (some ⟨w.heap.size, 0, none⟩) n n) w' ∧ Ow w' w.heap.size 35 3 (some ⟨w.heap.size, 0, none⟩) n n (caps (List.replicate n (0, 0, 0))) ∧ Below w.heap.size w w' := by
  obtain ⟨i, hi, hz0, hz1, hz2⟩ := info_parts info35
  obtain ⟨w', hr, ho, hg⟩ := run_make_full (P := Try.prog) w w.heap.size 22 35 i _ 3 Try.underlying22 hi hz0 hz1 .i64 .i64 n (by rw [hz2]; omega) (by unfold maxLen; omega) (Nat.le_refl _)
  refine ⟨w', hr, ?_, (Below.refl _ _).grown hg (Nat.le_refl _) (fun k hk => by cases hk)⟩
  have e : caps (List.replicate n (0, 0, 0)) = (madeCells (Value.agg #[.int .i64 0, .int .u64 0, .int .u64 0]).cells (n * 3)).toList := by
    apply List.ext_getElem?
    intro j
    rw [show (madeCells (Value.agg #[.int .i64 0, .int .u64 0, .int .u64 0]).cells (n * 3)).toList[j]? = (madeCells (Value.agg #[.int .i64 0, .int .u64 0, .int .u64 0]).cells (n * 3))[j]? from Array.getElem?_toList]
    simp only [madeCells, Value.cells]
    rw [Array.getElem?_map, Array.getElem?_range]
    by_cases hj : j < n * 3
    · rw [if_pos hj]
      have hg := cls_get (enc := encC) (k := 3) (fun _ => rfl) (List.replicate n (0, 0, 0)) (j / 3) (j % 3) (0, 0, 0) (by rw [List.getElem?_replicate, if_pos (by omega)]) (by omega)
      rw [show j / 3 * 3 + j % 3 = j by omega] at hg
      rw [show (caps (List.replicate n (0, 0, 0)))[j]? = _ from hg]
      have hm : j % 3 = 0 ∨ j % 3 = 1 ∨ j % 3 = 2 := by omega
      simp only [Option.map_some, Array.size, List.length]
      rcases hm with hm | hm | hm <;> rw [hm] <;> simp [encC]
    · rw [if_neg hj, List.getElem?_eq_none (by rw [caps_length]; simp; omega)]
      rfl
  unfold Ow
  rw [e]
  exact ho
/-- Where a slice begins that is cut off at l. -/
def cutA (a : Option Addr) (m l : Nat) : Option Addr := if m = l then a else a.map (·.add (l * 3))
theorem sz35 (w : World) : (sizeOf 35).run Try.prog w = .ok 3 w := by
  obtain ⟨i, hi, hz0, hz1, hz2⟩ := info_parts info35
  simp [sizeOf, typeInfo, hi, hz1]
theorem und22 : Try.prog.underlying 22 = some (.slice (Try.prog.elem 22)) := Try.underlying22
theorem el22 : Try.prog.elem 22 = 35 := by kernel_rfl
theorem slice_l (w : World) (a : Option Addr) (n c i : Nat) (h : i ≤ n) (hn : n ≤ c) : (Instr.sliceAt 22 (.slice a n c) (some (.int .i64 (i : Int))) none none).run Try.prog w = .ok (.slice (cutA a c i) (n - i) (c - i)) w := by
  rw [run_sliceAt_slice _ _ _ _ _ _ und22, run_slice_l _ _ _ _ _ und22 _ _ (by omega) (by omega), el22, sz35]
  rfl
theorem slice_h (w : World) (a : Option Addr) (n c i : Nat) (h : i ≤ c) : (Instr.sliceAt 22 (.slice a n c) none (some (.int .i64 (i : Int))) none).run Try.prog w = .ok (.slice a i c) w := by
  rw [run_sliceAt_slice _ _ _ _ _ _ und22, run_slice_h _ _ _ _ _ und22 _ _ (by omega) (by omega), el22, sz35]
  simp [sliced]
  cases a <;> simp [Addr.add]
theorem slice_hm (w : World) (a : Option Addr) (n c i : Nat) (h : i ≤ c) : (Instr.sliceAt 22 (.slice a n c) none (some (.int .i64 (i : Int))) (some (.int .i64 (i : Int)))).run Try.prog w = .ok (.slice a i i) w := by
  rw [run_sliceAt_slice _ _ _ _ _ _ und22, run_slice_hm _ _ _ _ _ und22 _ _ _ _ (by omega) (by omega) (by omega), el22, sz35]
  simp [sliced]
  cases a <;> simp [Addr.add]
theorem slice_lhm (w : World) (a : Option Addr) (n c l m : Nat) (h : l ≤ m) (h2 : m ≤ c) : (Instr.sliceAt 22 (.slice a n c) (some (.int .i64 (l : Int))) (some (.int .i64 (m : Int))) (some (.int .i64 (m : Int)))).run Try.prog w = .ok (.slice (cutA a m l) (m - l) (m - l)) w := by
  rw [run_sliceAt_slice _ _ _ _ _ _ und22, run_slice_lhm _ _ _ _ _ und22 _ _ _ _ _ _ (by omega) (by omega) (by omega) (by omega), el22, sz35]
  rfl
end Go.Proofs.Ytcagghfkomodlaa
