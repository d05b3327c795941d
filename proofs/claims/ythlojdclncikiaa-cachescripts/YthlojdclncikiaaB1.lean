import Derived.Test.YthlojdclncikiaaA2
import Derived.Test.YthlojdclncikiaaC1
namespace Go.Proofs.Ythlojdclncikiaa
open Go.RowKit
set_option linter.unusedVariables false

theorem below_drewN {w W : World} {n : Nat} (h : Below n w W) (k : Nat) : Below n w (W.drewN k) := ⟨h.os, h.tape, h.output, h.size, h.block⟩
/-- A place: is it known, with which capability, with which rights. -/
abbrev Pl := Bool × Cp × Int
def encP (p : Pl) : List Value := [.bool p.1, .int .i64 p.2.1.1, .int .u64 (p.2.1.2.1 : Int), .int .u64 (p.2.1.2.2 : Int), .int .i64 p.2.2]
theorem encP_one (p : Pl) : ∀ v ∈ encP p, v.oneCell' = true := by
  intro v hv
  simp only [encP, List.mem_cons, List.not_mem_nil, or_false] at hv
  rcases hv with rfl | rfl | rfl | rfl | rfl <;> rfl
/-- Places in a row. -/
def plc (P : List Pl) : List Value := P.flatMap encP
theorem plc_length (P : List Pl) : (plc P).length = P.length * 5 := by
  induction P with
  | nil => rfl
  | cons a r ih => simp only [plc, List.flatMap_cons, List.length_append] at ih ⊢; rw [ih]; simp [encP]; omega
theorem plc_one (P : List Pl) : ∀ u ∈ plc P, u.oneCell' = true := fun u hu => by
  unfold plc at hu
  obtain ⟨x, _, hx⟩ := List.mem_flatMap.1 hu
  exact encP_one x u hx
/-- A place's five cells. -/
structure Ce (w : World) (b o : Nat) (p : Pl) : Prop where
  c0 : w.cell? ⟨b, o, none⟩ = some (.bool p.1)
  c1 : w.cell? ⟨b, o + 1, none⟩ = some (.int .i64 p.2.1.1)
  c2 : w.cell? ⟨b, o + 2, none⟩ = some (.int .u64 (p.2.1.2.1 : Int))
  c3 : w.cell? ⟨b, o + 3, none⟩ = some (.int .u64 (p.2.1.2.2 : Int))
  c4 : w.cell? ⟨b, o + 4, none⟩ = some (.int .i64 p.2.2)
theorem Ce.but {S : Nat → Prop} {w w' : World} {b o : Nat} {p : Pl} (h : Ce w b o p) (hb : But S w w') (hn : ¬ S b) : Ce w' b o p :=
  ⟨cell_but hb h.c0 hn, cell_but hb h.c1 hn, cell_but hb h.c2 hn, cell_but hb h.c3 hn, cell_but hb h.c4 hn⟩
theorem Ce.later {w w' : World} {b o : Nat} {p : Pl} (h : Ce w b o p) (hb : Below w.heap.size w w') : Ce w' b o p := h.but (S := fun _ => False) (But.of hb) (fun h => h)
theorem ce_of {w : World} {b o : Nat} {P : List Pl} (h : w.rangeAt b o (plc P)) {i : Nat} {p : Pl} (hi : P[i]? = some p) : Ce w b (o + i * 5) p := by
  have hg := fun d (hd : d < 5) => cls_get (enc := encP) (k := 5) (fun _ => rfl) P i d p hi hd
  have e := fun d (hd : d < 5) v (hv : (encP p)[d]? = some v) => h (i * 5 + d) v ((hg d hd).trans hv)
  simp only [← Nat.add_assoc] at e
  exact ⟨e 0 (by omega) _ rfl, e 1 (by omega) _ rfl, e 2 (by omega) _ rfl, e 3 (by omega) _ rfl, e 4 (by omega) _ rfl⟩
/-- Is the place known with c? -/
def hasP (c : Cp) (p : Pl) : Bool := p.1 && decide (p.2.1 = c)
theorem cEq_iff (x c : Cp) : cEq x.1 (x.2.1 : Int) (x.2.2 : Int) c.1 (c.2.1 : Int) (c.2.2 : Int) = decide (x = c) := by
  unfold cEq
  by_cases h : x = c
  · subst h; simp
  · rw [decide_eq_false h]
    refine decide_eq_false fun hq => h ?_
    obtain ⟨q1, q2, q3⟩ := hq
    exact Prod.ext q1 (Prod.ext (Int.ofNat.inj q2) (Int.ofNat.inj q3))
theorem eqlCp (x c : Cp) (w : World) : (binOp .eql 34 (.agg #[.int .i64 x.1, .int .u64 (x.2.1 : Int), .int .u64 (x.2.2 : Int)]) (.agg #[.int .i64 c.1, .int .u64 (c.2.1 : Int), .int .u64 (c.2.2 : Int)])).run Try.prog w = .ok (.bool (decide (x = c))) w := by
  rw [eqlC, cEq_iff]
set_option maxRecDepth 100000 in
theorem has_any (p : Pl) (c : Cp) (w : World) :
    Calls Try.prog 27 #[.agg #[.bool p.1, .int .i64 p.2.1.1, .int .u64 (p.2.1.2.1 : Int), .int .u64 (p.2.1.2.2 : Int), .int .i64 p.2.2], .agg #[.int .i64 c.1, .int .u64 (c.2.1 : Int), .int .u64 (c.2.2 : Int)]] w fun e w' => e = .returned (.bool (hasP c p)) ∧ Below w.heap.size w w' := by
  obtain ⟨f, x, n⟩ := p
  have heq := fun W => eqlCp x c W
  have HH : Hid (hasP c (f, x, n) = (f && decide (x = c))) := rfl
  generalize decide (x = c) = q at heq HH
  cases f with
  | true =>
    go_enter Try.func27, Try.ntmps27
    go_wp2
    go_ret
    exact ⟨ret_bool (by rw [HH.out]; rfl), below2 _ _ _⟩
  | false =>
    go_enter Try.func27, Try.ntmps27
    go_wp2
    go_ret
    exact ⟨ret_bool (by rw [HH.out]; rfl), below2 _ _ _⟩
/-- The place that c has, or else the one given up for it. -/
def spotP (P : List Pl) (c : Cp) (n : Nat) : Nat := min ((P.take n).findIdx (hasP c)) (n - 1)
def SpRel (W : World) (P : List Pl) (c : Cp) (n : Nat) (t : Value) (w : World) : Prop :=
  ∃ i : Nat, i ≤ n ∧ t = .int .i64 (i : Int) ∧ (∀ j p, j < i → P[j]? = some p → hasP c p = false) ∧ Below W.heap.size W w
theorem spot_at {P : List Pl} {c : Cp} {n i : Nat} {p : Pl} (hi : i < n) (hp : P[i]? = some p) (hh : hasP c p = true) (hn : ∀ j q, j < i → P[j]? = some q → hasP c q = false) : spotP P c n = i := by
  unfold spotP
  have hl : i < P.length := (List.getElem?_eq_some_iff.1 hp).1
  have e : (P.take n).findIdx (hasP c) = i := by
    rw [List.findIdx_eq (by rw [List.length_take]; omega)]
    refine ⟨?_, fun j hj => ?_⟩
    · rw [List.getElem_take]
      rw [List.getElem?_eq_getElem hl] at hp
      cases hp
      exact hh
    · have hj2 : j < P.length := by omega
      have := hn j _ hj (List.getElem?_eq_getElem hj2)
      rw [List.getElem_take, this]
  rw [e]
  omega
theorem spot_none {P : List Pl} {c : Cp} {n : Nat} (hn : ∀ j q, j < n → P[j]? = some q → hasP c q = false) (hl : n ≤ P.length) : spotP P c n = n - 1 := by
  unfold spotP
  have e : (P.take n).findIdx (hasP c) = (P.take n).length := by
    rw [List.findIdx_eq_length]
    intro x hx
    obtain ⟨j, hj, rfl⟩ := List.mem_iff_getElem.1 hx
    rw [List.length_take] at hj
    rw [List.getElem_take]
    exact hn j _ (by omega) (List.getElem?_eq_getElem (by omega))
  rw [e, List.length_take]
  omega
theorem range_new (W : World) (L : List Value) (t : TypeId) : (W.alloc (.cells L.toArray t)).rangeAt W.heap.size 0 L := fun j v hv => by
  rw [Nat.zero_add, cell_of_row _ _ _ _ _ _ (heap_alloc_new W (.cells L.toArray t))]
  simpa using hv
theorem range_later {w w' : World} {b o : Nat} {cs : List Value} (h : w.rangeAt b o cs) (hb : Below w.heap.size w w') : w'.rangeAt b o cs := fun j v hv => cell_later hb (h j v hv)
theorem range_but {S : Nat → Prop} {w w' : World} {b o : Nat} {cs : List Value} (h : w.rangeAt b o cs) (hb : But S w w') (hn : ¬ S b) : w'.rangeAt b o cs := fun j v hv => cell_but hb (h j v hv) hn
set_option maxRecDepth 100000 in
set_option maxHeartbeats 1000000 in
theorem spot_any (P : List Pl) (c : Cp) (n : Nat) (w : World) (hl : P.length = 4) (h1 : 1 ≤ n) (h4 : n ≤ 4) :
    Calls Try.prog 22 #[.agg (plc P).toArray, .agg #[.int .i64 c.1, .int .u64 (c.2.1 : Int), .int .u64 (c.2.2 : Int)], .int .i64 (n : Int)] w fun e w' => e = .returned (.int .i64 (spotP P c n : Int)) ∧ Below w.heap.size w w' := by
  have hs : (plc P).toArray.size = 20 := by rw [List.size_toArray, plc_length, hl]
  have HA : Hid (∀ (W : World) (t : TypeId), (W.alloc (.cells (plc P).toArray t)).rangeAt W.heap.size 0 (plc P)) := fun W t => range_new W _ t
  have HL := hid hl
  clear hl
  generalize (plc P).toArray = A at HA hs
  go_enter Try.func22, Try.ntmps22
  go_upto_region 2 with fail
  go_loopw [9] (SpRel ((w.alloc (.cells A 58)).alloc (.cells #[.int .i64 c.1, .int .u64 (c.2.1 : Int), .int .u64 (c.2.2 : Int)] 34)) P c n) (fun t _ => n - (intOf t).toNat)
  case atStart => exact ⟨0, by omega, rfl, fun j p hj => absurd hj (Nat.not_lt_zero _), Below.refl _ _⟩
  case round =>
    obtain ⟨i, hi, rfl, hno, hB⟩ := hrel
    have HNo := hid hno
    clear hno
    by_cases hlt : i < n
    · obtain ⟨p, hp⟩ : ∃ p, P[i]? = some p := ⟨_, List.getElem?_eq_getElem (by rw [HL.out]; omega)⟩
      have hC : Hid (∀ U : World, Below wr.heap.size wr U → (U.cell? ⟨w.heap.size, i * 5, none⟩ = some (.bool p.1) ∧ U.cell? ⟨w.heap.size, i * 5 + 1, none⟩ = some (.int .i64 p.2.1.1) ∧ U.cell? ⟨w.heap.size, i * 5 + 2, none⟩ = some (.int .u64 (p.2.1.2.1 : Int)) ∧ U.cell? ⟨w.heap.size, i * 5 + 3, none⟩ = some (.int .u64 (p.2.1.2.2 : Int)) ∧ U.cell? ⟨w.heap.size, i * 5 + 4, none⟩ = some (.int .i64 p.2.2) ∧ U.cell? ⟨w.heap.size + 1, 0, none⟩ = some (.int .i64 c.1) ∧ U.cell? ⟨w.heap.size + 1, 1, none⟩ = some (.int .u64 (c.2.1 : Int)) ∧ U.cell? ⟨w.heap.size + 1, 2, none⟩ = some (.int .u64 (c.2.2 : Int))) ∧ Below wr.heap.size wr U) := fun U hU => by
        have hx := ((ce_of (range_later (HA.out w 58) (below1 _ (.cells #[.int .i64 c.1, .int .u64 (c.2.1 : Int), .int .u64 (c.2.2 : Int)] 34))) hp).later hB).later hU
        rw [Nat.zero_add] at hx
        exact ⟨⟨hx.c0, hx.c1, hx.c2, hx.c3, hx.c4, cell_later hU (cell_later hB (by simp [go_sem])), cell_later hU (cell_later hB (by simp [go_sem])), cell_later hU (cell_later hB (by simp [go_sem]))⟩, hU⟩
      have hHas := fun W => has_any p c W
      have HP := hid hp
      have HB := hid hB
      clear hp hB
      obtain ⟨q, hq'⟩ : ∃ q, q = hasP c p := ⟨_, rfl⟩
      rw [← hq'] at hHas
      have hq := hid hq'
      clear hq'
      have hi4 : (i : Int) < 4 := by omega
      go_upto_region 4 with fail
      go_region_held3 (fun U => (U.cell? ⟨w.heap.size, i * 5, none⟩ = some (.bool p.1) ∧ U.cell? ⟨w.heap.size, i * 5 + 1, none⟩ = some (.int .i64 p.2.1.1) ∧ U.cell? ⟨w.heap.size, i * 5 + 2, none⟩ = some (.int .u64 (p.2.1.2.1 : Int)) ∧ U.cell? ⟨w.heap.size, i * 5 + 3, none⟩ = some (.int .u64 (p.2.1.2.2 : Int)) ∧ U.cell? ⟨w.heap.size, i * 5 + 4, none⟩ = some (.int .i64 p.2.2) ∧ U.cell? ⟨w.heap.size + 1, 0, none⟩ = some (.int .i64 c.1) ∧ U.cell? ⟨w.heap.size + 1, 1, none⟩ = some (.int .u64 (c.2.1 : Int)) ∧ U.cell? ⟨w.heap.size + 1, 2, none⟩ = some (.int .u64 (c.2.2 : Int))) ∧ Below wr.heap.size wr U) (first | exact hC.out _ (Below.refl _ _).drew | exact hC.out _ hb2.out) (first | (go_at_call 27; refine (hHas _).mono ?_; rintro e w2 ⟨rfl, hb2'⟩; have hb2 := hid (below_call (Below.refl wr.heap.size wr).drew hb2')))
      have HB3 := hid (below_call HB.out (And.right (by assumption : _ ∧ Below wr.heap.size wr w2)))
      cases q with
      | true =>
        go_wp2
        go_ret
        exact ⟨ret_int (by rw [spot_at hlt HP.out hq.out.symm HNo.out]), below_call (below2 _ _ _) HB3.out⟩
      | false =>
        go_wp2
        refine ⟨⟨i + 1, by omega, by go_num, fun j x hj hx => ?_, HB3.out⟩, by simp [intOf]; omega⟩
        rcases Nat.lt_or_ge j i with h3 | h3
        · exact HNo.out j x h3 hx
        · obtain rfl : j = i := by omega
          rw [HP.out] at hx
          cases hx
          exact hq.out.symm
    · obtain rfl : i = n := by omega
      have HE := hid (spot_none HNo.out (by rw [HL.out]; exact h4))
      have hw : IntKind.i64.wrap ((i : Int) - 1) = ((i - 1 : Nat) : Int) := by rw [IntKind.wrap_i64]; omega
      have HB := hid hB
      clear hB
      go_wp2
      go_ret
      exact ⟨ret_int (by rw [HE.out]), below_call (below2 _ _ _) HB.out⟩
end Go.Proofs.Ythlojdclncikiaa
