import Derived.Test.YtlelglfdamakaaaQ1
namespace Go.Proofs.Ytlelglfdamakaaa
open Go.RowKit H
set_option linter.unusedVariables false
set_option linter.unusedSimpArgs false
variable {w w' : World} {H : Hv} {X : List Tk} {l : Fo} {t : Nat}

/-! ### listed -/
theorem caps_len (K : List Cp) : (caps K).length = K.length * 3 := by
  induction K with
  | nil => rfl
  | cons a r ih => simp only [caps, List.flatMap_cons, List.length_append] at ih ⊢; rw [ih]; simp [encC]; omega
theorem caps_one (K : List Cp) : ∀ u ∈ caps K, u.oneCell' = true := fun u hu => by
  obtain ⟨x, _, hx⟩ := List.mem_flatMap.1 hu
  exact encC_one x u hx
theorem cls_get {α : Type} {enc : α → List Value} {k : Nat} (hk : ∀ x, (enc x).length = k) (K : List α) (i c : Nat) (x : α) (hi : K[i]? = some x) (hc : c < k) : (K.flatMap enc)[i * k + c]? = (enc x)[c]? := by
  induction K generalizing i with
  | nil => cases hi
  | cons a r ih =>
    rw [List.flatMap_cons]
    cases i with
    | zero =>
      simp at hi
      subst hi
      rw [Nat.zero_mul, Nat.zero_add, List.getElem?_append_left (by rw [hk]; exact hc)]
    | succ i =>
      rw [List.getElem?_append_right (by rw [hk, Nat.add_mul]; omega), hk]
      have : (i + 1) * k + c - k = i * k + c := by rw [Nat.add_mul]; omega
      rw [this]
      exact ih i (by simpa using hi)
theorem caps_split {K : List Cp} {j : Nat} {u : Value} (h : (caps K)[j]? = some u) : ∃ (i c : Nat) (x : Cp), K[i]? = some x ∧ c < 3 ∧ j = i * 3 + c ∧ (encC x)[c]? = some u := by
  have hj : j < K.length * 3 := by have := (List.getElem?_eq_some_iff.1 h).1; rwa [caps_len] at this
  have hi : j / 3 < K.length := by omega
  refine ⟨j / 3, j % 3, K[j / 3], List.getElem?_eq_getElem hi, by omega, by omega, ?_⟩
  have := cls_get (enc := encC) (k := 3) (fun _ => rfl) K (j / 3) (j % 3) _ (List.getElem?_eq_getElem hi) (by omega)
  rw [← this, show j / 3 * 3 + j % 3 = j by omega]
  exact h
/-- A list that came in, as cells. -/
theorem Rd.cr {a : Option Addr} {n cap : Nat} {K : List Cp} (h : Rd w a n K) (hc : a = none → cap = 0) : Cr w 3 a n cap (caps K) := by
  refine ⟨by rw [caps_len, h.len], fun e => ⟨?_, hc e⟩, fun x hx j u hu => ?_, caps_one K⟩
  · rcases Nat.eq_zero_or_pos n with h0 | h0
    · exact h0
    · obtain ⟨b, o, e2, _⟩ := h.at_ h0
      rw [e] at e2; cases e2
  · obtain ⟨i, c, y, hy, hc3, rfl, hcc⟩ := caps_split hu
    have h0 : 0 < n := by have := (List.getElem?_eq_some_iff.1 hy).1; rw [h.len] at this; omega
    obtain ⟨b, o, e2, hat⟩ := h.at_ h0
    rw [hx] at e2
    cases e2
    obtain ⟨c0, c1, c2⟩ := hat i y hy
    rw [addr_add, ← Nat.add_assoc]
    match c, hc3, hcc with
    | 0, _, hcc => cases hcc; exact c0
    | 1, _, hcc => cases hcc; exact c1
    | 2, _, hcc => cases hcc; exact c2
theorem ow_rd {base : Nat} {a : Option Addr} {n cap : Nat} {K : List Cp} (h : Ow w base 32 3 a n cap (caps K)) (hn : K.length = n) : Rd w a n K := by
  refine ⟨hn, fun h0 => ?_⟩
  rcases h.form with ⟨_, e, _⟩ | ⟨g, rfl, _⟩
  · omega
  · refine ⟨g, 0, rfl, fun i c hc => ?_⟩
    have hv := h.rv
    have hg := fun (k : Nat) (hk : k < 3) => cls_get (enc := encC) (k := 3) (fun _ => rfl) K i k c hc hk
    refine ⟨?_, ?_, ?_⟩
    · have := hv g rfl (i * 3 + 0) _ (hg 0 (by decide))
      simpa using this
    · have := hv g rfl (i * 3 + 1) _ (hg 1 (by decide))
      simpa using this
    · have := hv g rfl (i * 3 + 2) _ (hg 2 (by decide))
      simpa using this
/-- The marks in the spare room. -/
def marks (i : Nat) : List Cp := (List.range i).map (fun j => ((-77 : Int), 0, j))
theorem marks_succ (i : Nat) : marks (i + 1) = marks i ++ [((-77 : Int), 0, i)] := by simp [marks, List.range_succ]
theorem marks_len (i : Nat) : (marks i).length = i := by simp [marks]
def mkL (i : Nat) : List Value := [.int .i64 (-77), .int .u64 0, .int .u64 (i : Int)]
theorem mkL_one (i : Nat) : ∀ u ∈ mkL i, u.oneCell' = true := fun u hu => by
  simp only [mkL, List.mem_cons, List.not_mem_nil, or_false] at hu
  rcases hu with rfl | rfl | rfl <;> rfl
theorem mark_app {w wr : World} {b : Option Addr} {m c i : Nat} {M0 : List Value} (hO : Ow wr w.heap.size 32 3 b m c M0) (hB : Below w.heap.size w wr) (hm : (m + 1) * 24 ≤ 140737488355328) :
    ∃ b2 c2 w2, (Builtin.append_ #[46, 46] 46 #[.slice b m c, .slice (some ⟨wr.heap.size, 0, none⟩) 1 1]).run Try.prog (wr.alloc (Obj.cells #[.int .i64 (-77), .int .u64 0, .int .u64 (i : Int)] 32)) = .ok (.slice b2 (m + 1) c2) w2 ∧ Ow w2 w.heap.size 32 3 b2 (m + 1) c2 (M0 ++ mkL i) ∧ Below w.heap.size w w2 := by
  have hB2 : Below wr.heap.size wr (wr.alloc (Obj.cells (mkL i).toArray 32)) := below1 wr _
  have hcr : Cr (wr.alloc (Obj.cells (mkL i).toArray 32)) 3 (some ⟨wr.heap.size, 0, none⟩) 1 1 (mkL i) := Cr.lit wr 32 (mkL i) (mkL_one i)
  obtain ⟨b2, c2, w2, h1, h2, h3⟩ := append_k 46 32 _ 3 24 Try.underlying46 info32 rfl (by decide) (by decide) (hO.later hB2) hcr (Nat.le_trans hB.size hB2.size) hm
  exact ⟨b2, c2, w2, h1, h2, But.below (hB.alloc hB.size _) h3.but (fun k hk => (hO.blk k hk).1)⟩
theorem ar40 {i : Nat} (h : i < 40) : i + 1 ≤ 40 ∧ 39 - i < 40 - i ∧ IntKind.u64.wrap (i : Int) = (i : Int) := ⟨by omega, by omega, by rw [IntKind.wrap_u64]; omega⟩
theorem ar24 {n : Nat} (h : (n + 40) * 24 ≤ 140737488355328) (i : Nat) (hi : i < 40) : (n + i + 1) * 24 ≤ 140737488355328 := Nat.le_trans (Nat.mul_le_mul_right 24 (show n + i + 1 ≤ n + 40 by omega)) h
def LiRel (w : World) (n : Nat) (K : List Cp) (t s : Value) (wr : World) : Prop :=
  ∃ (i : Nat) (a : Option Addr) (c : Nat), t = .int .i64 (i : Int) ∧ s = .slice a (n + i) c ∧ i ≤ 40 ∧ Ow wr w.heap.size 32 3 a (n + i) c (caps (K ++ marks i)) ∧ Below w.heap.size w wr
set_option maxRecDepth 100000 in
set_option maxHeartbeats 2000000 in
theorem listed_any {a : Option Addr} {n cap : Nat} {K : List Cp} (hr : Rd w a n K) (hc : a = none → cap = 0) (hn : (n + 40) * 24 ≤ 140737488355328) :
    Calls Try.prog 45 #[.slice a n cap] w fun e w' => ∃ b c, e = .returned (.slice b (n + 40) c) ∧ Ow w' w.heap.size 32 3 b (n + 40) c (caps (K ++ marks 40)) ∧ Below w.heap.size w w' := by
  obtain ⟨a1, c1, w1, hrun, ho1, hg1⟩ := append_k 46 32 _ 3 24 Try.underlying46 info32 rfl (by decide) (by decide) (Ow.nil w w.heap.size 32 3) (hr.cr hc) (Nat.le_refl _) (by omega)
  simp only [Nat.zero_add, List.nil_append] at hrun ho1
  have hB1 : Below w.heap.size w w1 := But.below (Below.refl _ _) hg1.but (fun k hk => by obtain ⟨x, hx, _⟩ := hk; cases hx)
  have H0 : Hid (LiRel w n K (.int .i64 0) (.slice a1 n c1) w1) := ⟨0, a1, c1, rfl, rfl, by omega, by simpa [marks, Ow] using ho1, hB1⟩
  have HRUN := hid hrun
  have HAr := hid (fun i hi => ar24 hn i hi)
  clear hr hc hrun ho1 hg1 hB1 hn
  go_enter Try.func45, Try.ntmps45
  go_upto_region 4 with (first | (at_builtin; refine wpList_append_known rfl _ _ 46 rfl _ _ rfl rfl _ w1 HRUN.out ?_))
  go_loopw [4, 3] (LiRel w n K) (fun t _ _ => 40 - (intOf t).toNat)
  case atStart => exact H0.out
  case round =>
    clear H0
    obtain ⟨i, b, c, rfl, rfl, hi, hO, hB⟩ := hrel
    have HB := hid hB
    by_cases hlt : i < 40
    · have hd : decide ((i : Int) < 40) = true := decide_eq_true (by omega)
      obtain ⟨hi1, hdec, hi64⟩ := ar40 hlt
      have hm := HAr.out i hlt
      obtain ⟨b2, c2, w2, hrun, ho2, hB3⟩ := mark_app (i := i) hO HB.out hm
      have hcs : caps (K ++ marks (i + 1)) = caps (K ++ marks i) ++ mkL i := by rw [marks_succ, ← List.append_assoc, caps_snoc]; rfl
      rw [← hcs] at ho2
      have HN : Hid (LiRel w n K (.int .i64 ((i + 1 : Nat) : Int)) (.slice b2 (n + i + 1) c2) w2) := ⟨i + 1, b2, c2, rfl, rfl, hi1, ho2, hB3⟩
      have hu : IntKind.u64.wrap (i : Int) = (i : Int) := hi64
      have HRUN := hid hrun
      clear hO hB hrun ho2 hB3 hcs
      go_wp2_with (first | (at_builtin; refine wpList_append_known rfl _ _ 46 rfl _ _ rfl rfl _ w2 HRUN.out ?_))
      exact ⟨HN.out, by simp [intOf]; exact hdec⟩
    · have hd : decide ((i : Int) < 40) = false := decide_eq_false (by omega)
      obtain rfl : i = 40 := by omega
      have HO := hid hO
      clear hO hB
      go_wp2
      go_ret
      exact ⟨b, c, rfl, HO.out, HB.out⟩
end Go.Proofs.Ytlelglfdamakaaa
