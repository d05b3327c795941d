import Derived.Test.YtfcfacchppkmdaaF3
namespace Go.Proofs.Ytfcfacchppkmdaa
open Go.RowKit
set_option linter.unusedVariables false
set_option linter.unusedSimpArgs false

theorem lst_ge (k m : Nat) : lst (k + m) (fun i => decide (i < k)) false = (List.range m).map (k + ·) := by
  induction m with
  | zero =>
    rw [Nat.add_zero]
    unfold lst
    exact List.filter_eq_nil_iff.2 (fun i hi => by have := List.mem_range.1 hi; simp; omega)
  | succ m ih =>
    rw [← Nat.add_assoc, lst_succ, ih, List.range_succ, List.map_append]
    simp
theorem tk_ge (k : Nat) : tk (fun i => decide (i < k)) ((List.range k).map (k + ·)) = fun i => decide (i < k + k) := by
  funext i
  simp only [tk, List.mem_map, List.mem_range]
  rw [Bool.eq_iff_iff]
  simp only [Bool.or_eq_true, decide_eq_true_eq]
  constructor
  · rintro (h | ⟨a, ha, rfl⟩) <;> omega
  · intro h
    by_cases e : i < k
    · exact .inl e
    · exact .inr ⟨i - k, by omega, by omega⟩
theorem lst_full (n : Nat) : lst n (fun i => decide (i < n)) true = List.range n := by
  unfold lst
  exact List.filter_eq_self.2 (fun i hi => by have := List.mem_range.1 hi; simp; omega)
/-- Three lists, none in another's memory. -/
structure Tri (w : World) (base : Nat) (a1 : Option Addr) (n1 c1 : Nat) (L1 : List Int) (a2 : Option Addr) (n2 c2 : Nat) (L2 : List Int) (a3 : Option Addr) (n3 c3 : Nat) (L3 : List Int) : Prop where
  o1 : Own w base 3 a1 n1 c1 (ints L1)
  o2 : Own w base 3 a2 n2 c2 (ints L2)
  o3 : Own w base 3 a3 n3 c3 (ints L3)
  d12 : ∀ k, Blk a1 k → ¬ Blk a2 k
  d13 : ∀ k, Blk a1 k → ¬ Blk a3 k
  d23 : ∀ k, Blk a2 k → ¬ Blk a3 k
theorem Tri.rot {w : World} {base : Nat} {a1 : Option Addr} {n1 c1 : Nat} {L1 : List Int} {a2 : Option Addr} {n2 c2 : Nat} {L2 : List Int} {a3 : Option Addr} {n3 c3 : Nat} {L3 : List Int} (h : Tri w base a1 n1 c1 L1 a2 n2 c2 L2 a3 n3 c3 L3) : Tri w base a2 n2 c2 L2 a3 n3 c3 L3 a1 n1 c1 L1 :=
  ⟨h.o2, h.o3, h.o1, h.d23, fun k h1 h2 => h.d12 k h2 h1, fun k h1 h2 => h.d13 k h2 h1⟩
theorem Tri.add {w : World} {base : Nat} {a1 : Option Addr} {n1 c1 : Nat} {L1 : List Int} {a2 : Option Addr} {n2 c2 : Nat} {L2 : List Int} {a3 : Option Addr} {n3 c3 : Nat} {L3 : List Int} (x : Int) (h : Tri w base a1 n1 c1 L1 a2 n2 c2 L2 a3 n3 c3 L3) (hb : base ≤ w.heap.size) (hn : n1 ≤ 40) :
    ∃ a' c' w', (Builtin.append_ #[22, 22] 22 #[.slice a1 n1 c1, .slice (some ⟨w.heap.size, 0, none⟩) 1 1]).run Try.prog (w.alloc (Obj.cells #[.int .i64 x] 3)) = .ok (.slice a' (n1 + 1) c') w' ∧ Tri w' base a' (n1 + 1) c' (L1 ++ [x]) a2 n2 c2 L2 a3 n3 c3 L3 ∧ Below base w w' := by
  obtain ⟨a', c', w', hrun, hO, hG⟩ := append_one x (.inl h.o1) hb (by omega)
  refine ⟨a', c', w', hrun, ⟨hO, h.o2.but hG.but (fun k h2 h1 => h.d12 k h1 h2), h.o3.but hG.but (fun k h3 h1 => h.d13 k h1 h3), fun k h1 h2 => ?_, fun k h1 h2 => ?_, h.d23⟩, hG.below h.o1 hb⟩
  · rcases hG.on k h1 with e | e
    · exact h.d12 k e h2
    · have := h.o2.lt k h2; omega
  · rcases hG.on k h1 with e | e
    · exact h.d13 k e h2
    · have := h.o3.lt k h2; omega
theorem Tri.later {w w' : World} {base : Nat} {a1 : Option Addr} {n1 c1 : Nat} {L1 : List Int} {a2 : Option Addr} {n2 c2 : Nat} {L2 : List Int} {a3 : Option Addr} {n3 c3 : Nat} {L3 : List Int} (hb : Below w.heap.size w w') (h : Tri w base a1 n1 c1 L1 a2 n2 c2 L2 a3 n3 c3 L3) : Tri w' base a1 n1 c1 L1 a2 n2 c2 L2 a3 n3 c3 L3 :=
  ⟨h.o1.later hb, h.o2.later hb, h.o3.later hb, h.d12, h.d13, h.d23⟩
def up (k m : Nat) : List Int := nats ((List.range m).map (k + ·))
theorem up_next (k m : Nat) : up k (m + 1) = up k m ++ [((k + m : Nat) : Int)] := by simp [up, nats, List.range_succ]
theorem range_next (m : Nat) : nats (List.range (m + 1)) = nats (List.range m) ++ [(m : Int)] := by simp [nats, List.range_succ]
/-- one, two, all, behind i rounds. -/
def KRel (w : World) (k : Nat) (s1 s2 s3 v : Value) (w' : World) : Prop :=
  ∃ (i : Nat) (a1 : Option Addr) (c1 : Nat) (a2 : Option Addr) (c2 : Nat) (a3 : Option Addr) (c3 : Nat) (n1 n2 : Nat), s1 = .slice a1 n1 c1 ∧ s2 = .slice a2 n2 c2 ∧ s3 = .slice a3 i c3 ∧ v = .int .i64 (i : Int) ∧ i ≤ k + k ∧
    ((i ≤ k ∧ n1 = i ∧ n2 = 0) ∨ (k ≤ i ∧ n1 = k ∧ n2 = i - k)) ∧ Tri w' w.heap.size a1 n1 c1 (nats (List.range n1)) a2 n2 c2 (up k n2) a3 i c3 (nats (List.range i)) ∧ Below w.heap.size w w'
/-- Bytes at the end of a page. -/
theorem keep_page (p x x1 : Nat) : pgL (wrB (fun _ _ => 0) p 60 [x, x1]) p 60 4 = [x, x1, 0, 0] := by
  simp [pgL, List.range_succ, wrB]
theorem xx_row (w : World) (x x1 : Nat) : Row (w.alloc (Obj.cells #[.int .u8 (x : Int), .int .u8 (x1 : Int)] 5)) (some ⟨w.heap.size, 0, none⟩) 2 2 (u8s [x, x1]) :=
  Row.at rfl (Nat.le_refl _) (u8s_one _) (fun i v hv => by
    match i, hv with
    | 0, hv => simp [u8s] at hv; subst hv; simp [go_sem]
    | 1, hv => simp [u8s] at hv; subst hv; simp [go_sem]
    | _ + 2, hv => simp [u8s] at hv)
theorem xx4_row (w : World) (x x1 : Nat) : Row (w.alloc (Obj.cells #[.int .u8 (x : Int), .int .u8 (x1 : Int), .int .u8 0, .int .u8 0] 5)) (some ⟨w.heap.size, 0, none⟩) 4 4 (u8s [x, x1, 0, 0]) :=
  Row.at rfl (Nat.le_refl _) (u8s_one _) (fun i v hv => by
    match i, hv with
    | 0, hv => simp [u8s] at hv; subst hv; simp [go_sem]
    | 1, hv => simp [u8s] at hv; subst hv; simp [go_sem]
    | 2, hv => simp [u8s] at hv; subst hv; simp [go_sem]
    | 3, hv => simp [u8s] at hv; subst hv; simp [go_sem]
    | _ + 4, hv => simp [u8s] at hv)
theorem nine_row (w : World) : Row (w.alloc (Obj.cells #[.int .u8 9, .int .u8 9, .int .u8 9] 5)) (some ⟨w.heap.size, 0, none⟩) 3 3 (u8s [9, 9, 9]) :=
  Row.at rfl (Nat.le_refl _) (u8s_one _) (fun i v hv => by
    match i, hv with
    | 0, hv => simp [u8s] at hv; subst hv; simp [go_sem]
    | 1, hv => simp [u8s] at hv; subst hv; simp [go_sem]
    | 2, hv => simp [u8s] at hv; subst hv; simp [go_sem]
    | _ + 3, hv => simp [u8s] at hv)
theorem lf_two (x x1 : Nat) : fl (lf [x, x1] 2 (2 + 120)) 2 = [x, x1] := by simp [fl, lf, List.range_succ]
set_option maxRecDepth 100000 in
set_option maxHeartbeats 1000000 in
theorem take_at (g pb n : Nat) (t : Nat → Bool) (B : Nat → Nat → Nat) (K : Nat) (w : World) (h : Arn w g pb n t B) (hk : K ≤ (lst n t false).length) (hK0 : 0 < K) :
    Calls Try.prog 10 #[.pointer (some ⟨g, 0, none⟩), .int .i64 (K : Int)] w fun e w' => ∃ gb, e = .returned (.tuple #[.slice (some ⟨gb, 0, none⟩) K K, .int .i64 0]) ∧ Ans w' w.heap.size (some ⟨gb, 0, none⟩) K K (ints (nats ((lst n t false).take K))) ∧
      Arn w' g pb n (tk t ((lst n t false).take K)) B ∧ But (· = g) w w' := by
  have hd : decide ((K : Int) < 0) = false := decide_eq_false (by omega)
  have H := hid h
  have HK := hid hk
  have hgl := h.glt
  have hn := h.le
  have hK2 : K ≤ 256 := Nat.le_trans hk (Nat.le_trans (lst_length n t false) hn)
  clear h hk
  go_enter Try.func10, Try.ntmps10
  go_upto_region 4 with (first | (go_at_call 22; refine (listed_any g pb n t B false _ H.out).mono ?_; rintro e w1 ⟨a, m, cap, rfl, O, hb⟩))
  have hl := O.len
  rw [ints_length, nats_length] at hl
  have hKm : K ≤ m := by have := HK.out; omega
  have hd2 : decide ((K : Int) > (m : Int)) = false := decide_eq_false (by omega)
  have HL := hid hl
  have HO := hid O
  have HB := hid hb
  have hcap := O.read.cap_
  clear hl O hb
  cases a with
  | none =>
    obtain ⟨rfl, rfl⟩ := HO.out.read.none_ rfl
    omega
  | some x =>
    obtain ⟨gb, rfl, hgb⟩ : ∃ gb, x = ⟨gb, 0, none⟩ ∧ w.heap.size ≤ gb := by
      rcases HO.out.row.2 with ⟨h1, hn⟩ | ⟨gb, c, cur, hv, hgb, _⟩
      · simp at h1
      · simp only [Value.slice.injEq, Option.some.injEq] at hv
        exact ⟨gb, hv.1, hgb⟩
    go_upto_region 7 with fail
    go_loopw [21] (TakeRel w1 g pb n t B K) (fun k _ => K - (intOf k).toNat)
    case atStart => exact ⟨0, rfl, Nat.zero_le _, by rw [List.take_zero, tk_nil]; exact H.out.later HB.out, But.refl _ _⟩
    case round =>
      obtain ⟨i, rfl, hi, hA, hBt⟩ := hrel
      have HA := hid hA
      have HBt := hid hBt
      clear hA hBt
      by_cases hlt : i < K
      · have hd3 : decide ((i : Int) < (K : Int)) = true := decide_eq_true (by omega)
        have hil : i < (lst n t false).length := by have := HL.out; omega
        obtain ⟨q, hq⟩ : ∃ q, q = (lst n t false)[i] := ⟨_, rfl⟩
        have hqm : q < n ∧ t q = false := mem_lst.1 (by rw [hq]; exact List.getElem_mem _)
        have hqn := hqm.1
        have y : wr.cell? ⟨gb, i, none⟩ = some (.int .i64 (q : Int)) := by
          have := (HO.out.read.but HBt.out (fun k hk e => by obtain ⟨z, hz, rfl⟩ := hk; cases hz; simp only at e; omega)).cells _ rfl i _ (ints_nats_get _ i hil)
          rw [addr_add0] at this
          rw [hq]
          exact this
        have z := HA.out.mark q (by omega)
        have z1 := z.1
        have z2 := z.2
        have HN : Hid (Arn (wr.setCell ⟨g, 1 + q, none⟩ (.bool true)) g pb n (tk t ((lst n t false).take (i + 1))) B) := HA.out.mark_set hqn (fun j => by
          rw [List.take_add_one, List.getElem?_eq_getElem hil, ← hq]
          simp only [tk, Option.toList_some, List.mem_append, List.mem_singleton]
          by_cases e : j = q
          · simp [e]
          · simp [e]) (fun j b hj => H.out.zero j b (by simp [tk] at hj; exact hj.1))
        have HNB : Hid (But (· = g) w1 (wr.setCell ⟨g, 1 + q, none⟩ (.bool true))) := HBt.out.setCell (p := ⟨g, 1 + q, none⟩) (show g = g from rfl) _
        clear z hq hqm
        go_wp2
        exact ⟨⟨i + 1, rfl, by omega, HN.out, HNB.out⟩, by simp [intOf]; omega⟩
      · obtain rfl : i = K := by omega
        go_wp2
        have hO := HO.out.ans.but HBt.out (fun k hk e => by obtain ⟨z, hz, rfl⟩ := hk; cases hz; simp only at e; omega)
        have hr := hO.row.sub (m := i) (c := i) hKm (Nat.le_refl _) (fun h => by cases h)
        refine bodyPost_ret (v := .tuple #[.slice (some ⟨gb, 0, none⟩) i i, .int .i64 0]) (by simp [results, Try.results10, go_sem]) rfl ⟨_, rfl, ⟨?_, hO.soft, hO.ge, hO.lt⟩, HA.out, (But.of HB.out).trans HBt.out⟩
        simpa [ints, nats, List.map_take] using hr
def f4 {α : Type} (a b c d : α) : Nat → α := fun q => match q with
  | 0 => a
  | 1 => b
  | 2 => c
  | _ => d
theorem Own.form {w : World} {base : Nat} {e : TypeId} {a : Option Addr} {n cap : Nat} {L : List Value} (h : Own w base e a n cap L) (hn : 0 < n) : ∃ g, a = some ⟨g, 0, none⟩ := by
  rcases h.row.2 with ⟨_, h0⟩ | ⟨gb, c, cur, hv, _⟩
  · omega
  · simp only [Value.slice.injEq] at hv
    exact ⟨gb, hv.1⟩
theorem four_cases {P : Nat → Prop} (h0 : P 0) (h1 : P 1) (h2 : P 2) (h3 : P 3) : ∀ q, q < 4 → P q := fun q hq => by
  match q, hq with
  | 0, _ => exact h0
  | 1, _ => exact h1
  | 2, _ => exact h2
  | 3, _ => exact h3
theorem f4_mk {w : World} {b0 b1 b2 b3 k n cs ct : Nat} {L0 L1 L2 L3 : List Int} (h0 : Ans w 0 (some ⟨b0, 0, none⟩) k k (ints L0)) (h1 : Ans w 0 (some ⟨b1, 0, none⟩) k k (ints L1)) (h2 : Own w 0 3 (some ⟨b2, 0, none⟩) n cs (ints L2)) (h3 : Own w 0 3 (some ⟨b3, 0, none⟩) n ct (ints L3))
    (hk : k ≤ 40) (hn : n ≤ 40) (d : b0 ≠ b1 ∧ b0 ≠ b2 ∧ b0 ≠ b3 ∧ b1 ≠ b2 ∧ b1 ≠ b3 ∧ b2 ≠ b3) : Four w (f4 b0 b1 b2 b3) (f4 k k n n) (f4 k k cs ct) (f4 L0 L1 L2 L3) := by
  have l0 := h0.lt b0 ⟨_, rfl, rfl⟩
  have l1 := h1.lt b1 ⟨_, rfl, rfl⟩
  have l2 := h2.lt b2 ⟨_, rfl, rfl⟩
  have l3 := h3.lt b3 ⟨_, rfl, rfl⟩
  refine ⟨four_cases ?_ ?_ ?_ ?_, four_cases ?_ ?_ ?_ ?_, four_cases l0 l1 l2 l3, ?_, four_cases hk hk hn hn⟩
  · exact .inr ⟨rfl, _, rfl, h0.row⟩
  · exact .inr ⟨rfl, _, rfl, h1.row⟩
  · exact .inl h2
  · exact .inl h3
  · exact h0.soft _ rfl
  · exact h1.soft _ rfl
  · exact h2.soft _ rfl
  · exact h3.soft _ rfl
  · obtain ⟨d1, d2, d3, d4, d5, d6⟩ := d
    intro q r hq hr e
    match q, hq, r, hr with
    | 0, _, 0, _ => rfl
    | 1, _, 1, _ => rfl
    | 2, _, 2, _ => rfl
    | 3, _, 3, _ => rfl
    | 0, _, 1, _ => exact absurd e d1
    | 0, _, 2, _ => exact absurd e d2
    | 0, _, 3, _ => exact absurd e d3
    | 1, _, 2, _ => exact absurd e d4
    | 1, _, 3, _ => exact absurd e d5
    | 2, _, 3, _ => exact absurd e d6
    | 1, _, 0, _ => exact absurd e.symm d1
    | 2, _, 0, _ => exact absurd e.symm d2
    | 3, _, 0, _ => exact absurd e.symm d3
    | 2, _, 1, _ => exact absurd e.symm d4
    | 3, _, 1, _ => exact absurd e.symm d5
    | 3, _, 2, _ => exact absurd e.symm d6
theorem Row.setv {w : World} {g o n c j : Nat} {L : List Value} {v : Value} (h : Row w (some ⟨g, o, none⟩) n c L) (hj : j < n) (hv : v.oneCell' = true) : Row (w.setCell ⟨g, o + j, none⟩ v) (some ⟨g, o, none⟩) n c (L.set j v) := by
  have hlen := h.len
  refine Row.at (by rw [List.length_set, hlen]) h.cap_ (fun u hu => ?_) (fun i u hu => ?_)
  · rcases List.mem_or_eq_of_mem_set hu with h1 | h1
    · exact h.one u h1
    · rw [h1]; exact hv
  · have hi : i < n := by have := (List.getElem?_eq_some_iff.1 hu).1; rwa [List.length_set, hlen] at this
    have hc := h.cells _ rfl i _ (List.getElem?_eq_getElem (by omega))
    rw [addr_add] at hc
    by_cases e : j = i
    · subst e
      rw [List.getElem?_set_self (by omega)] at hu
      cases hu
      exact World.cell?_setCell_same _ _ _ hc
    · rw [List.getElem?_set_ne e, List.getElem?_eq_getElem (by omega)] at hu
      rw [World.cell?_setCell_other _ _ _ _ (fun e2 => e (by have := congrArg Addr.off e2; simp at this; omega)), hc]
      exact hu
theorem lent_two (x x1 : Nat) (w : World) : Calls Try.prog 18 #[.slice (some ⟨w.heap.size, 0, none⟩) 2 2] (w.alloc (Obj.cells #[.int .u8 (x : Int), .int .u8 (x1 : Int)] 5)) fun e w' => ∃ b, e = .returned (.slice (some ⟨b, 0, none⟩) 122 122) ∧ Cel w' b 122 (lf [x, x1] 2 122) ∧ w.heap.size < b ∧ b < w'.heap.size ∧ Below w.heap.size w w' := by
  refine (lent_any _ 2 2 [x, x1] _ (xx_row w x x1) (by omega)).mono ?_
  rintro e w' ⟨b, rfl, h1, h2, h3, h4⟩
  simp at h2
  exact ⟨b, rfl, h1, by omega, h3, below_call (below1 _ _) h4⟩
end Go.Proofs.Ytfcfacchppkmdaa
