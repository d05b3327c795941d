import Derived.Test.YtlelglfdamakaaaMQ
namespace Go.Proofs.Ytlelglfdamakaaa.K
open Go.RowKit
set_option linter.unusedVariables false

/-- A place: is it known, with which capability, with which rights. -/
abbrev Pl := Bool × Cp × Int
def encP (p : Pl) : List Value := [.bool p.1, .int .i64 p.2.1.1, .int .u64 (p.2.1.2.1 : Int), .int .u64 (p.2.1.2.2 : Int), .int .i64 p.2.2]
theorem encP_one (p : Pl) : ∀ v ∈ encP p, v.oneCell' = true := by
  intro v hv
  simp only [encP, List.mem_cons, List.not_mem_nil, or_false] at hv
  rcases hv with rfl | rfl | rfl | rfl | rfl <;> rfl
/-- Places in a row. -/
def plc (P : List Pl) : List Value := P.flatMap encP
theorem plc_length (P : List Pl) : (plc P).length = P.length * 5 := by
  induction P with
  | nil => rfl
  | cons a r ih => simp only [plc, List.flatMap_cons, List.length_append] at ih ⊢; rw [ih]; simp [encP]; omega
theorem plc_one (P : List Pl) : ∀ u ∈ plc P, u.oneCell' = true := fun u hu => by
  unfold plc at hu
  obtain ⟨x, _, hx⟩ := List.mem_flatMap.1 hu
  exact encP_one x u hx
/-- A place's five cells. -/
structure Ce (w : World) (b o : Nat) (p : Pl) : Prop where
  c0 : w.cell? ⟨b, o, none⟩ = some (.bool p.1)
  c1 : w.cell? ⟨b, o + 1, none⟩ = some (.int .i64 p.2.1.1)
  c2 : w.cell? ⟨b, o + 2, none⟩ = some (.int .u64 (p.2.1.2.1 : Int))
  c3 : w.cell? ⟨b, o + 3, none⟩ = some (.int .u64 (p.2.1.2.2 : Int))
  c4 : w.cell? ⟨b, o + 4, none⟩ = some (.int .i64 p.2.2)
theorem Ce.but {S : Nat → Prop} {w w' : World} {b o : Nat} {p : Pl} (h : Ce w b o p) (hb : But S w w') (hn : ¬ S b) : Ce w' b o p :=
  ⟨cell_but hb h.c0 hn, cell_but hb h.c1 hn, cell_but hb h.c2 hn, cell_but hb h.c3 hn, cell_but hb h.c4 hn⟩
theorem Ce.later {w w' : World} {b o : Nat} {p : Pl} (h : Ce w b o p) (hb : Below w.heap.size w w') : Ce w' b o p := h.but (S := fun _ => False) (But.of hb) (fun h => h)
theorem ce_of {w : World} {b o : Nat} {P : List Pl} (h : w.rangeAt b o (plc P)) {i : Nat} {p : Pl} (hi : P[i]? = some p) : Ce w b (o + i * 5) p := by
  have hg := fun d (hd : d < 5) => cls_get (enc := encP) (k := 5) (fun _ => rfl) P i d p hi hd
  have e := fun d (hd : d < 5) v (hv : (encP p)[d]? = some v) => h (i * 5 + d) v ((hg d hd).trans hv)
  simp only [← Nat.add_assoc] at e
  exact ⟨e 0 (by omega) _ rfl, e 1 (by omega) _ rfl, e 2 (by omega) _ rfl, e 3 (by omega) _ rfl, e 4 (by omega) _ rfl⟩
/-- Is the place known with c? -/
def hasP (c : Cp) (p : Pl) : Bool := p.1 && decide (p.2.1 = c)
theorem cEq_iff (x c : Cp) : cEq x.1 (x.2.1 : Int) (x.2.2 : Int) c.1 (c.2.1 : Int) (c.2.2 : Int) = decide (x = c) := by
  unfold cEq
  by_cases h : x = c
  · subst h; simp
  · rw [decide_eq_false h]
    refine decide_eq_false fun hq => h ?_
    obtain ⟨q1, q2, q3⟩ := hq
    exact Prod.ext q1 (Prod.ext (Int.ofNat.inj q2) (Int.ofNat.inj q3))
theorem eqlCp (x c : Cp) (w : World) : (binOp .eql 32 (.agg #[.int .i64 x.1, .int .u64 (x.2.1 : Int), .int .u64 (x.2.2 : Int)]) (.agg #[.int .i64 c.1, .int .u64 (c.2.1 : Int), .int .u64 (c.2.2 : Int)])).run Try.prog w = .ok (.bool (decide (x = c))) w := by
  rw [eqlC, cEq_iff]
set_option maxRecDepth 100000 in
theorem has_any (p : Pl) (c : Cp) (w : World) :
    Calls Try.prog 96 #[.agg #[.bool p.1, .int .i64 p.2.1.1, .int .u64 (p.2.1.2.1 : Int), .int .u64 (p.2.1.2.2 : Int), .int .i64 p.2.2], .agg #[.int .i64 c.1, .int .u64 (c.2.1 : Int), .int .u64 (c.2.2 : Int)]] w fun e w' => e = .returned (.bool (hasP c p)) ∧ Below w.heap.size w w' := by
  obtain ⟨f, x, n⟩ := p
  have heq := fun W => eqlCp x c W
  have HH : Hid (hasP c (f, x, n) = (f && decide (x = c))) := rfl
  generalize decide (x = c) = q at heq HH
  cases f with
  | true =>
    go_enter Try.func96, Try.ntmps96
    go_wp2
    go_ret
    exact ⟨ret_bool (by rw [HH.out]; rfl), below2 _ _ _⟩
  | false =>
    go_enter Try.func96, Try.ntmps96
    go_wp2
    go_ret
    exact ⟨ret_bool (by rw [HH.out]; rfl), below2 _ _ _⟩
/-- The place that c has, or else the one given up for it. -/
def spotP (P : List Pl) (c : Cp) (n : Nat) : Nat := min ((P.take n).findIdx (hasP c)) (n - 1)
def SpRel (W : World) (P : List Pl) (c : Cp) (n : Nat) (t : Value) (w : World) : Prop :=
  ∃ i : Nat, i ≤ n ∧ t = .int .i64 (i : Int) ∧ (∀ j p, j < i → P[j]? = some p → hasP c p = false) ∧ Below W.heap.size W w
theorem spot_at {P : List Pl} {c : Cp} {n i : Nat} {p : Pl} (hi : i < n) (hp : P[i]? = some p) (hh : hasP c p = true) (hn : ∀ j q, j < i → P[j]? = some q → hasP c q = false) : spotP P c n = i := by
  unfold spotP
  have hl : i < P.length := (List.getElem?_eq_some_iff.1 hp).1
  have e : (P.take n).findIdx (hasP c) = i := by
    rw [List.findIdx_eq (by rw [List.length_take]; omega)]
    refine ⟨?_, fun j hj => ?_⟩
    · rw [List.getElem_take]
      rw [List.getElem?_eq_getElem hl] at hp
      cases hp
      exact hh
    · have hj2 : j < P.length := by omega
      have := hn j _ hj (List.getElem?_eq_getElem hj2)
      rw [List.getElem_take, this]
  rw [e]
  omega
theorem spot_none {P : List Pl} {c : Cp} {n : Nat} (hn : ∀ j q, j < n → P[j]? = some q → hasP c q = false) (hl : n ≤ P.length) : spotP P c n = n - 1 := by
  unfold spotP
  have e : (P.take n).findIdx (hasP c) = (P.take n).length := by
    rw [List.findIdx_eq_length]
    intro x hx
    obtain ⟨j, hj, rfl⟩ := List.mem_iff_getElem.1 hx
    rw [List.length_take] at hj
    rw [List.getElem_take]
    exact hn j _ (by omega) (List.getElem?_eq_getElem (by omega))
  rw [e, List.length_take]
  omega
theorem range_new (W : World) (L : List Value) (t : TypeId) : (W.alloc (.cells L.toArray t)).rangeAt W.heap.size 0 L := fun j v hv => by
  rw [Nat.zero_add, cell_of_row _ _ _ _ _ _ (heap_alloc_new W (.cells L.toArray t))]
  simpa using hv
theorem range_later {w w' : World} {b o : Nat} {cs : List Value} (h : w.rangeAt b o cs) (hb : Below w.heap.size w w') : w'.rangeAt b o cs := fun j v hv => cell_later hb (h j v hv)
theorem range_but {S : Nat → Prop} {w w' : World} {b o : Nat} {cs : List Value} (h : w.rangeAt b o cs) (hb : But S w w') (hn : ¬ S b) : w'.rangeAt b o cs := fun j v hv => cell_but hb (h j v hv) hn
set_option maxRecDepth 100000 in
set_option maxHeartbeats 1000000 in
theorem spot_any (P : List Pl) (c : Cp) (n : Nat) (w : World) (hl : P.length = 4) (h1 : 1 ≤ n) (h4 : n ≤ 4) :
    Calls Try.prog 91 #[.agg (plc P).toArray, .agg #[.int .i64 c.1, .int .u64 (c.2.1 : Int), .int .u64 (c.2.2 : Int)], .int .i64 (n : Int)] w fun e w' => e = .returned (.int .i64 (spotP P c n : Int)) ∧ Below w.heap.size w w' := by
  have hs : (plc P).toArray.size = 20 := by rw [List.size_toArray, plc_length, hl]
  have HA : Hid (∀ (W : World) (t : TypeId), (W.alloc (.cells (plc P).toArray t)).rangeAt W.heap.size 0 (plc P)) := fun W t => range_new W _ t
  have HL := hid hl
  clear hl
  generalize (plc P).toArray = A at HA hs
  go_enter Try.func91, Try.ntmps91
  go_upto_region 2 with fail
  go_loopw [9] (SpRel ((w.alloc (.cells A 118)).alloc (.cells #[.int .i64 c.1, .int .u64 (c.2.1 : Int), .int .u64 (c.2.2 : Int)] 32)) P c n) (fun t _ => n - (intOf t).toNat)
  case atStart => exact ⟨0, by omega, rfl, fun j p hj => absurd hj (Nat.not_lt_zero _), Below.refl _ _⟩
  case round =>
    obtain ⟨i, hi, rfl, hno, hB⟩ := hrel
    have HNo := hid hno
    clear hno
    by_cases hlt : i < n
    · obtain ⟨p, hp⟩ : ∃ p, P[i]? = some p := ⟨_, List.getElem?_eq_getElem (by rw [HL.out]; omega)⟩
      have hC : Hid (∀ U : World, Below wr.heap.size wr U → (U.cell? ⟨w.heap.size, i * 5, none⟩ = some (.bool p.1) ∧ U.cell? ⟨w.heap.size, i * 5 + 1, none⟩ = some (.int .i64 p.2.1.1) ∧ U.cell? ⟨w.heap.size, i * 5 + 2, none⟩ = some (.int .u64 (p.2.1.2.1 : Int)) ∧ U.cell? ⟨w.heap.size, i * 5 + 3, none⟩ = some (.int .u64 (p.2.1.2.2 : Int)) ∧ U.cell? ⟨w.heap.size, i * 5 + 4, none⟩ = some (.int .i64 p.2.2) ∧ U.cell? ⟨w.heap.size + 1, 0, none⟩ = some (.int .i64 c.1) ∧ U.cell? ⟨w.heap.size + 1, 1, none⟩ = some (.int .u64 (c.2.1 : Int)) ∧ U.cell? ⟨w.heap.size + 1, 2, none⟩ = some (.int .u64 (c.2.2 : Int))) ∧ Below wr.heap.size wr U) := fun U hU => by
        have hx := ((ce_of (range_later (HA.out w 118) (below1 _ (.cells #[.int .i64 c.1, .int .u64 (c.2.1 : Int), .int .u64 (c.2.2 : Int)] 32))) hp).later hB).later hU
        rw [Nat.zero_add] at hx
        exact ⟨⟨hx.c0, hx.c1, hx.c2, hx.c3, hx.c4, cell_later hU (cell_later hB (by simp [go_sem])), cell_later hU (cell_later hB (by simp [go_sem])), cell_later hU (cell_later hB (by simp [go_sem]))⟩, hU⟩
      have hHas := fun W => has_any p c W
      have HP := hid hp
      have HB := hid hB
      clear hp hB
      obtain ⟨q, hq'⟩ : ∃ q, q = hasP c p := ⟨_, rfl⟩
      rw [← hq'] at hHas
      have hq := hid hq'
      clear hq'
      have hi4 : (i : Int) < 4 := by omega
      go_upto_region 4 with fail
      go_region_held3 (fun U => (U.cell? ⟨w.heap.size, i * 5, none⟩ = some (.bool p.1) ∧ U.cell? ⟨w.heap.size, i * 5 + 1, none⟩ = some (.int .i64 p.2.1.1) ∧ U.cell? ⟨w.heap.size, i * 5 + 2, none⟩ = some (.int .u64 (p.2.1.2.1 : Int)) ∧ U.cell? ⟨w.heap.size, i * 5 + 3, none⟩ = some (.int .u64 (p.2.1.2.2 : Int)) ∧ U.cell? ⟨w.heap.size, i * 5 + 4, none⟩ = some (.int .i64 p.2.2) ∧ U.cell? ⟨w.heap.size + 1, 0, none⟩ = some (.int .i64 c.1) ∧ U.cell? ⟨w.heap.size + 1, 1, none⟩ = some (.int .u64 (c.2.1 : Int)) ∧ U.cell? ⟨w.heap.size + 1, 2, none⟩ = some (.int .u64 (c.2.2 : Int))) ∧ Below wr.heap.size wr U) (first | exact hC.out _ (Below.refl _ _).drew | exact hC.out _ hb2.out) (first | (go_at_call 96; refine (hHas _).mono ?_; rintro e w2 ⟨rfl, hb2'⟩; have hb2 := hid (below_call (Below.refl wr.heap.size wr).drew hb2')))
      have HB3 := hid (below_call HB.out (And.right (by assumption : _ ∧ Below wr.heap.size wr w2)))
      cases q with
      | true =>
        go_wp2
        go_ret
        exact ⟨ret_int (by rw [spot_at hlt HP.out hq.out.symm HNo.out]), below_call (below2 _ _ _) HB3.out⟩
      | false =>
        go_wp2
        refine ⟨⟨i + 1, by omega, by go_num, fun j x hj hx => ?_, HB3.out⟩, by simp [intOf]; omega⟩
        rcases Nat.lt_or_ge j i with h3 | h3
        · exact HNo.out j x h3 hx
        · obtain rfl : j = i := by omega
          rw [HP.out] at hx
          cases hx
          exact hq.out.symm
    · obtain rfl : i = n := by omega
      have HE := hid (spot_none HNo.out (by rw [HL.out]; exact h4))
      have hw : IntKind.i64.wrap ((i : Int) - 1) = ((i - 1 : Nat) : Int) := by rw [IntKind.wrap_i64]; omega
      have HB := hid hB
      clear hB
      go_wp2
      go_ret
      exact ⟨ret_int (by rw [HE.out]), below_call (below2 _ _ _) HB.out⟩
end Go.Proofs.Ytlelglfdamakaaa.K
namespace Go.Proofs.Ytlelglfdamakaaa.K
open Go.RowKit
set_option linter.unusedVariables false

/-- A load whose run is known. -/
theorem ld_arm {P : Program} {w : World} {ops : Array Oper} {rest : List Oper} {a : Act} {Q : Exit → Act → World → Prop} {d : Option Tmp} {tt : TypeId} {ps : String} {af} {ty : TypeId} {x : Operand} {p v : Value}
    (hr : (Instr.loadAt ty p).run P w = .ok v w) (hx : a.eval x = p) (h : wpList P ops Q rest (a.put d v) w) :
    wpList P ops Q ({ dst := d, op := .load ty x, type := tt, pos := ps, after := af, guard := none } :: rest) a w := by
  refine wpList_plain rfl fun K hK => ?_
  unfold Oper.wp execOp
  simp only [hx, hr, Sem.run_bind, Sem.run_pure, Result.andThen_ok]
  exact hK _ _ h
theorem plc_get : ∀ (Q : List Pl) (j : Nat), (plc Q)[j]? = (Q[j / 5]?).bind (fun x => (encP x)[j % 5]?)
  | [], j => by simp [plc]
  | a :: r, j => by
    have ih := plc_get r
    unfold plc at ih ⊢
    rw [List.flatMap_cons]
    have hl : (encP a).length = 5 := rfl
    by_cases h : j < 5
    · rw [List.getElem?_append_left (by omega), Nat.div_eq_of_lt h, Nat.mod_eq_of_lt h]
      rfl
    · rw [List.getElem?_append_right (by omega), hl, ih, show j / 5 = (j - 5) / 5 + 1 by omega, show j % 5 = (j - 5) % 5 by omega]
      rfl
theorem range_set {w : World} {b o : Nat} {Q : List Pl} {i : Nat} (h : w.rangeAt b o (plc Q)) (hi : i < Q.length) (p : Pl) : (w.setCells b (o + i * 5) (encP p)).rangeAt b o (plc (Q.set i p)) := fun j v hv => by
  rw [plc_get] at hv
  by_cases e : j / 5 = i
  · subst e
    rw [List.getElem?_set_self hi] at hv
    have hlt : j % 5 < (encP p).length := Nat.mod_lt _ (by decide)
    have := World.cell?_setCells_in b (encP p) (o + j / 5 * 5) w (fun d hd => by
      have hd5 : d < 5 := hd
      rw [Nat.add_assoc]
      exact h.isSome _ (by rw [plc_length]; omega)) (j % 5) hlt
    rw [show o + j / 5 * 5 + j % 5 = o + j by omega] at this
    rw [this]
    simpa [hlt] using hv
  · rw [List.getElem?_set_ne (fun h => e h.symm), ← plc_get] at hv
    rw [World.cell?_setCells_out b (encP p) (o + i * 5) w ⟨b, o + j, none⟩ (fun _ _ => by
      have hl : (encP p).length = 5 := rfl
      show o + j < o + i * 5 ∨ o + i * 5 + (encP p).length ≤ o + j
      omega)]
    exact h j v hv
theorem info118 : (Try.prog.info? 118).map (·.size) = some 20 := by kernel_rfl
/-- A free place. -/
def fr : Pl := (false, (0, 0, 0), 0)
theorem zinfo58 : (Try.prog.info? 118).map (fun i => (i.zero, i.size, i.bytes)) = some (some (.agg (plc (List.replicate 4 fr)).toArray), 20, 160) := by kernel_rfl
theorem zero_of {t : TypeId} {z : Value} {s b : Nat} (h : (Try.prog.info? t).map (fun i => (i.zero, i.size, i.bytes)) = some (some z, s, b)) (w : World) : (zeroValue t).run Try.prog w = .ok z w := by
  obtain ⟨i, hi, hz0, hz1, hz2⟩ := info_parts h
  simp [zeroValue, typeInfo, hi, hz0]
theorem load58 {w : World} {b o : Nat} {L : List Value} (h : w.rangeAt b o L) (hl : L.length = 20) : (Instr.loadAt 118 (.pointer (some ⟨b, o, none⟩))).run Try.prog w = .ok (.agg L.toArray) w :=
  run_loadAt_mid w b o 118 L _ h Try.underlying118 rfl (by rw [info118, hl])
theorem stc {w : World} {b o n : Nat} {L : List Value} (h : w.there b o n) (hl : L.length = n) (h1 : ∀ v ∈ L, v.oneCell' = true) : (storeCells ⟨b, o, none⟩ L).run Try.prog w = .ok () (w.setCells b o L) :=
  run_storeCells_cells (P := Try.prog) b o L 0 w (fun j hj => by rw [Nat.add_zero]; exact (h j (by omega)).1) (fun j hj => by rw [Nat.add_zero]; exact (h j (by omega)).2) h1
/-- The set in the midst of being moved: i places are. -/
def mvd (P : List Pl) (i : Nat) : List Pl := P.take 1 ++ P.take i ++ P.drop (i + 1)
def LdRel (W : World) (b : Nat) (P : List Pl) (k : Nat) (t : Value) (w : World) : Prop :=
  ∃ i : Nat, i ≤ k ∧ t = .int .i64 (i : Int) ∧ w.rangeAt b 0 (plc (mvd P i)) ∧ w.there b 0 20 ∧ But (fun x => x = b) W w
theorem four {P : List Pl} (h : P.length = 4) : ∃ a b c d, P = [a, b, c, d] := by
  match P, h with
  | [a, b, c, d], _ => exact ⟨a, b, c, d, rfl⟩
theorem mvd_len {P : List Pl} {i : Nat} (h : P.length = 4) (hi : i < 4) : (mvd P i).length = 4 := by simp [mvd, h]; omega
theorem mvd_next {P : List Pl} {i : Nat} {p : Pl} (h : P.length = 4) (hi : i + 1 < 4) (hp : P[i]? = some p) : (mvd P i).set (i + 1) p = mvd P (i + 1) := by
  obtain ⟨a, b, c, d, rfl⟩ := four h
  match i, hi with
  | 0, _ => cases hp; rfl
  | 1, _ => cases hp; rfl
  | 2, _ => cases hp; rfl
theorem mvd_last {P : List Pl} {k : Nat} (p : Pl) (h : P.length = 4) (hk : k < 4) : (mvd P k).set 0 p = p :: P.eraseIdx k := by
  obtain ⟨a, b, c, d, rfl⟩ := four h
  match k, hk with
  | 0, _ => rfl
  | 1, _ => rfl
  | 2, _ => rfl
  | 3, _ => rfl
theorem mvd_zero {P : List Pl} (h : P.length = 4) : mvd P 0 = P := by
  obtain ⟨a, b, c, d, rfl⟩ := four h
  rfl
theorem there_new (W : World) (A : Array Value) (t : TypeId) (n : Nat) (h : A.size = n) : (W.alloc (.cells A t)).there W.heap.size 0 n := fun j hj => by
  rw [Nat.zero_add, cell_of_row _ _ _ _ _ _ (heap_alloc_new W (.cells A t))]
  refine ⟨by simp; omega, ?_⟩
  simp only [World.frozen?, heap_alloc_new]
  simp
theorem there_later {w w' : World} {b o n : Nat} (h : w.there b o n) (hb : Below w.heap.size w w') : w'.there b o n := fun j hj => by
  obtain ⟨h1, h2⟩ := h j hj
  obtain ⟨u, hu⟩ := Option.isSome_iff_exists.1 h1
  exact ⟨by rw [cell_later hb hu]; rfl, by rw [hb.frozen (World.block_lt_of_cell? _ _ hu)]; exact h2⟩
theorem there_but {S : Nat → Prop} {w w' : World} {b o n : Nat} (h : w.there b o n) (hb : But S w w') (hn : ¬ S b) : w'.there b o n := fun j hj => by
  obtain ⟨h1, h2⟩ := h j hj
  obtain ⟨u, hu⟩ := Option.isSome_iff_exists.1 h1
  have := (Lies.but hb ⟨hu, h2⟩ hn)
  exact ⟨by rw [this.1]; rfl, this.2⟩
set_option maxRecDepth 100000 in
set_option maxHeartbeats 1000000 in
theorem lead_any (P : List Pl) (p : Pl) (k : Nat) (w : World) (hl : P.length = 4) (hk : k < 4) :
    Calls Try.prog 90 #[.agg (plc P).toArray, .agg #[.bool p.1, .int .i64 p.2.1.1, .int .u64 (p.2.1.2.1 : Int), .int .u64 (p.2.1.2.2 : Int), .int .i64 p.2.2], .int .i64 (k : Int)] w fun e w' => e = .returned (.agg (plc (p :: P.eraseIdx k)).toArray) ∧ Below w.heap.size w w' := by
  have hs : (plc P).length = 20 := by rw [plc_length, hl]
  have hz := fun W => zero_of zinfo58 W
  obtain ⟨Z, hZ⟩ : ∃ Z, Z = plc (List.replicate 4 fr) := ⟨_, rfl⟩
  have hZl : Z.length = 20 := by rw [hZ, plc_length]; rfl
  rw [← hZ] at hz
  have HZ := hid hZ
  clear hZ
  obtain ⟨A, hA⟩ : ∃ A, A = plc P := ⟨_, rfl⟩
  rw [← hA]
  have HA := hid hA
  have HAl : Hid (A.length = 20) := by rw [hA]; exact hs
  have HZl := hid hZl
  have HL := hid hl
  clear hA hs hZl hl
  obtain ⟨Z', hZ'⟩ : ∃ Z', Z' = Z.toArray := ⟨_, rfl⟩
  rw [← hZ'] at hz
  have HZ' := hid hZ'
  clear hZ'
  have hAl := HAl.out
  go_enter Try.func90, Try.ntmps90
  go_upto_region 1 with fail
  generalize hw3 : (((w.alloc (Obj.cells A.toArray 118)).alloc (Obj.cells #[Value.bool p.1, Value.int IntKind.i64 p.2.1.1, Value.int IntKind.u64 (p.2.1.2.1 : Int), Value.int IntKind.u64 (p.2.1.2.2 : Int), Value.int IntKind.i64 p.2.2] 116)).alloc (Obj.cells Z' 118)) = w3
  have HS3 : Hid (w3.heap.size = w.heap.size + 3) := by rw [← hw3]; simp [Hid]
  have HB3 : Hid (Below w.heap.size w w3) := by rw [← hw3]; exact (below2 _ _ _).alloc (by simp; omega) _
  have HR3 : Hid (w3.rangeAt w.heap.size 0 A) := by
    rw [← hw3]
    exact range_later (range_later (range_new w A 118) (below1 _ _)) (below1 _ _)
  have HP3 : Hid (Ce w3 (w.heap.size + 1) 0 p) := by
    rw [← hw3]
    exact ⟨by simp [go_sem], by simp [go_sem], by simp [go_sem], by simp [go_sem], by simp [go_sem]⟩
  have HT3 : Hid (w3.there (w.heap.size + 1 + 1) 0 20) := by
    have := there_new ((w.alloc (Obj.cells A.toArray 118)).alloc (Obj.cells #[Value.bool p.1, Value.int IntKind.i64 p.2.1.1, Value.int IntKind.u64 (p.2.1.2.1 : Int), Value.int IntKind.u64 (p.2.1.2.2 : Int), Value.int IntKind.i64 p.2.2] 116)) Z' 118 20 (by rw [HZ'.out]; simp [HZl.out])
    rw [hw3] at this
    simp at this
    exact this
  clear hw3
  have HLD := hid (load58 HR3.out HAl.out)
  have HTN := hid (there_new w3 Z' 118 20 (by rw [HZ'.out]; simp [HZl.out]))
  have HST := stc (L := A) (n := 20) HTN.out HAl.out (by rw [HA.out]; exact plc_one P)
  generalize hw4 : (w3.alloc (Obj.cells Z' 118)).setCells w3.heap.size 0 A = w4 at HST
  have HB4 : Hid (Below w3.heap.size w3 w4) := by
    rw [← hw4]
    exact But.below (below1 w3 _) (But.setCells (S := fun x => x = w3.heap.size) rfl A 0 (But.refl _ _)) (fun k hk => by omega)
  have HS4 : Hid (w3.heap.size < w4.heap.size) := by rw [← hw4, size_setCells]; simp [Hid]
  have HR4 : Hid (w4.rangeAt w3.heap.size 0 (plc (mvd P 0))) := by
    rw [← hw4, mvd_zero HL.out, ← HA.out]
    exact World.rangeAt_setCells_same _ _ _ _ (by rw [HAl.out]; exact HTN.out)
  have HT4 : Hid (w4.there w3.heap.size 0 20) := by rw [← hw4]; exact World.there_setCells HTN.out _ _ _
  clear hw4 HTN
  go_upto_region 3 with (first | ((with_reducible refine ld_arm HLD.out ?_ ?_); · rfl))
  clear HST HLD
  go_loopw [11] (LdRel w4 w3.heap.size P k) (fun t _ => k - (intOf t).toNat)
  case atStart => exact ⟨0, by omega, rfl, HR4.out, HT4.out, But.refl _ _⟩
  case round =>
    obtain ⟨i, hi, rfl, hR, hT, hB⟩ := hrel
    have hne := HS3.out
    have h34 := HS4.out
    have HR := hid hR
    have HT := hid hT
    have HB := hid hB
    clear hR hT hB
    by_cases hlt : i < k
    · have hi4 : (i : Int) < 4 := by omega
      have hi5 : (i : Int) + 1 < 4 := by omega
      have hwr : IntKind.i64.wrap ((i : Int) + 1) = ((i + 1 : Nat) : Int) := by rw [IntKind.wrap_i64]; omega
      obtain ⟨x, hx⟩ : ∃ x, P[i]? = some x := ⟨_, List.getElem?_eq_getElem (by rw [HL.out]; omega)⟩
      obtain ⟨y, hy⟩ : ∃ y, (mvd P i)[i + 1]? = some y := ⟨_, List.getElem?_eq_getElem (by rw [mvd_len HL.out (by omega)]; omega)⟩
      have hX := ((ce_of (by rw [← HA.out]; exact HR3.out) hx).later HB4.out).but HB.out (by omega)
      have hY := ce_of HR.out hy
      rw [Nat.zero_add] at hX hY
      have hF := fun (d : Nat) (hd : d < 5) => (HT.out ((i + 1) * 5 + d) (by omega)).2
      simp only [Nat.zero_add] at hF
      obtain ⟨x0, x1, x2, x3, x4⟩ := hX
      obtain ⟨y0, y1, y2, y3, y4⟩ := hY
      have f0 := hF 0 (by omega)
      have f1 := hF 1 (by omega)
      have f2 := hF 2 (by omega)
      have f3 := hF 3 (by omega)
      have f4 := hF 4 (by omega)
      rw [Nat.add_zero] at f0
      have HX := hid hx
      clear hF hne h34 hx hy
      go_wp2
      refine ⟨⟨i + 1, by omega, by go_num, ?_, World.there_setCells HT.out _ ((i + 1) * 5) (encP x), HB.out.trans (But.setCells (S := fun x => x = w3.heap.size) rfl (encP x) ((i + 1) * 5) (But.refl _ _))⟩, by simp [intOf]; omega⟩
      have := range_set HR.out (i := i + 1) (by rw [mvd_len HL.out (by omega)]; omega) x
      rw [mvd_next HL.out (by omega) HX.out, Nat.zero_add] at this
      exact this
    · obtain rfl : i = k := by omega
      have hX := ((HP3.out).later HB4.out).but HB.out (by omega)
      obtain ⟨x0, x1, x2, x3, x4⟩ := hX
      obtain ⟨y, hy⟩ : ∃ y, (mvd P i)[0]? = some y := ⟨_, List.getElem?_eq_getElem (by rw [mvd_len HL.out (by omega)]; omega)⟩
      have hY := ce_of HR.out hy
      obtain ⟨y0, y1, y2, y3, y4⟩ := hY
      have hF := fun (d : Nat) (hd : d < 5) => (HT.out d (by omega)).2
      have f0 := hF 0 (by omega)
      have f1 := hF 1 (by omega)
      have f2 := hF 2 (by omega)
      have f3 := hF 3 (by omega)
      have f4 := hF 4 (by omega)
      simp only [Nat.zero_mul, Nat.zero_add] at x0 x1 x2 x3 x4 y0 y1 y2 y3 y4 f0 f1 f2 f3 f4
      clear hF hne h34 hy
      go_upto_region 8 with fail
      have HR5 : Hid ((((((wr.setCell ⟨w3.heap.size, 0, none⟩ (.bool p.1)).setCell ⟨w3.heap.size, 1, none⟩ (.int .i64 p.2.1.1)).setCell ⟨w3.heap.size, 2, none⟩ (.int .u64 (p.2.1.2.1 : Int))).setCell ⟨w3.heap.size, 3, none⟩ (.int .u64 (p.2.1.2.2 : Int))).setCell ⟨w3.heap.size, 4, none⟩ (.int .i64 p.2.2)).rangeAt w3.heap.size 0 (plc (p :: P.eraseIdx i))) := by
        have := range_set HR.out (i := 0) (by rw [mvd_len HL.out (by omega)]; omega) p
        rw [mvd_last p HL.out (by omega)] at this
        exact this
      have HB5 : Hid (But (fun x => x = w3.heap.size) w4 (((((wr.setCell ⟨w3.heap.size, 0, none⟩ (.bool p.1)).setCell ⟨w3.heap.size, 1, none⟩ (.int .i64 p.2.1.1)).setCell ⟨w3.heap.size, 2, none⟩ (.int .u64 (p.2.1.2.1 : Int))).setCell ⟨w3.heap.size, 3, none⟩ (.int .u64 (p.2.1.2.2 : Int))).setCell ⟨w3.heap.size, 4, none⟩ (.int .i64 p.2.2))) := HB.out.trans (But.setCells (S := fun x => x = w3.heap.size) rfl (encP p) 0 (But.refl _ _))
      generalize (((((wr.setCell ⟨w3.heap.size, 0, none⟩ (.bool p.1)).setCell ⟨w3.heap.size, 1, none⟩ (.int .i64 p.2.1.1)).setCell ⟨w3.heap.size, 2, none⟩ (.int .u64 (p.2.1.2.1 : Int))).setCell ⟨w3.heap.size, 3, none⟩ (.int .u64 (p.2.1.2.2 : Int))).setCell ⟨w3.heap.size, 4, none⟩ (.int .i64 p.2.2)) = w5 at *
      obtain ⟨N, hN⟩ : ∃ N, N = plc (p :: P.eraseIdx i) := ⟨_, rfl⟩
      have hNl : N.length = 20 := by rw [hN, plc_length, List.length_cons, List.length_eraseIdx, HL.out, if_pos (by omega)]
      have HN1 : Hid (∀ v ∈ N, v.oneCell' = true) := by rw [hN]; exact plc_one _
      rw [← hN] at HR5
      have HN := hid hN
      have HT5 : Hid (w5.there (w.heap.size + 1 + 1) 0 20) := there_but (there_later HT3.out HB4.out) HB5.out (by have := HS3.out; omega)
      have HLD := hid (load58 HR5.out hNl)
      have HST := stc (L := N) (n := 20) HT5.out hNl HN1.out
      have HB6 : Hid (Below w.heap.size w (w5.setCells (w.heap.size + 1 + 1) 0 N)) :=
        But.below (But.below (below_call HB3.out HB4.out) HB5.out (fun k hk => by have := HS3.out; omega)) (But.setCells (S := fun x => x = w.heap.size + 1 + 1) rfl N 0 (But.refl _ _)) (fun k hk => by omega)
      have HLR := hid (run_loadVar_mid (P := Try.prog) (w5.setCells (w.heap.size + 1 + 1) 0 N) (w.heap.size + 1 + 1) 0 118 N _ (World.rangeAt_setCells_same _ _ _ _ (by rw [hNl]; exact HT5.out)) Try.underlying118 rfl (by rw [info118, hNl]))
      generalize w5.setCells (w.heap.size + 1 + 1) 0 N = w6 at HST HB6 HLR
      clear hN
      go_wp2_with (first | ((with_reducible refine ld_arm HLD.out ?_ ?_); · rfl))
      refine bodyPost_ret (v := .agg N.toArray) ?_ rfl ⟨by rw [HN.out], HB6.out⟩
      have hlr := HLR.out
      simp [results, Try.results90, asAddr, hlr]
end Go.Proofs.Ytlelglfdamakaaa.K
namespace Go.Proofs.Ytlelglfdamakaaa.K
open Go.RowKit
set_option linter.unusedVariables false

/-- The cache in memory: sets, ways, knob, the places of each set, the epoch, hits and misses. -/
structure Ca (w : World) (g s n k : Nat) (R : Nat → List Pl) (e hi mi : Int) : Prop where
  c0 : w.cell? ⟨g, 0, none⟩ = some (.int .i64 (s : Int))
  c1 : w.cell? ⟨g, 1, none⟩ = some (.int .i64 (n : Int))
  c2 : w.cell? ⟨g, 2, none⟩ = some (.int .i64 (k : Int))
  at_ : ∀ r, r < 16 → w.rangeAt g (3 + r * 20) (plc (R r))
  th : w.there g 3 320
  len : ∀ r, (R r).length = 4
  ce : Lies w ⟨g, 323, none⟩ (.int .i64 e)
  ch : Lies w ⟨g, 324, none⟩ (.int .i64 hi)
  cm : Lies w ⟨g, 325, none⟩ (.int .i64 mi)
  ls : s ≤ 16
  n1 : 1 ≤ n
  n4 : n ≤ 4
  lk : k ≤ 64
variable {w w' : World} {g s n k : Nat} {R : Nat → List Pl} {e hi mi : Int}
theorem Ca.lt (h : Ca w g s n k R e hi mi) : g < w.heap.size := World.block_lt_of_cell? _ _ h.c0
theorem Ca.but {S : Nat → Prop} (h : Ca w g s n k R e hi mi) (hb : But S w w') (h1 : ¬ S g) : Ca w' g s n k R e hi mi :=
  ⟨cell_but hb h.c0 h1, cell_but hb h.c1 h1, cell_but hb h.c2 h1, fun r hr => range_but (h.at_ r hr) hb h1, there_but h.th hb h1, h.len, h.ce.but hb h1, h.ch.but hb h1, h.cm.but hb h1, h.ls, h.n1, h.n4, h.lk⟩
theorem Ca.later (h : Ca w g s n k R e hi mi) (hb : Below w.heap.size w w') : Ca w' g s n k R e hi mi := h.but (S := fun _ => False) (But.of hb) (fun h => h)
/-! ### New -/
def R0 : Nat → List Pl := fun _ => List.replicate 4 fr
theorem zinfo61 : (Try.prog.info? 121).map (fun i => (i.zero, i.size, i.bytes)) = some (some (.agg (ints [0, 0, 0] ++ (plc (List.replicate 64 fr) ++ ints [0, 0, 0])).toArray), 326, 2608) := by kernel_rfl
theorem free_row (r : Nat) (hr : r < 16) (j : Nat) (v : Value) (hv : (plc (List.replicate 4 fr))[j]? = some v) : (plc (List.replicate 64 fr))[r * 20 + j]? = some v := by
  have hj : j < 20 := (List.getElem?_eq_some_iff.1 hv).1
  rw [plc_get] at hv ⊢
  rw [List.getElem?_replicate, if_pos (by omega)] at hv ⊢
  rw [show (r * 20 + j) % 5 = j % 5 by omega]
  exact hv
theorem Ca.new (w : World) (s n k : Nat) (h1 : s ≤ 16) (h2 : 1 ≤ n) (h3 : n ≤ 4) (h4 : k ≤ 64) (Z : Array Value) (hZ : Z = (ints [0, 0, 0] ++ (plc (List.replicate 64 fr) ++ ints [0, 0, 0])).toArray) :
    Ca (w.alloc (.cells (((Z.setIfInBounds 0 (.int .i64 (s : Int))).setIfInBounds 1 (.int .i64 (n : Int))).setIfInBounds 2 (.int .i64 (k : Int))) 121)) w.heap.size s n k R0 0 0 0 := by
  have hs : Z.size = 326 := by rw [hZ]; simp [plc_length, ints]
  have hh := heap_alloc_new w (.cells (((Z.setIfInBounds 0 (.int .i64 (s : Int))).setIfInBounds 1 (.int .i64 (n : Int))).setIfInBounds 2 (.int .i64 (k : Int))) 121)
  have hf : ∀ j, (w.alloc (.cells (((Z.setIfInBounds 0 (.int .i64 (s : Int))).setIfInBounds 1 (.int .i64 (n : Int))).setIfInBounds 2 (.int .i64 (k : Int))) 121)).frozen? ⟨w.heap.size, j, none⟩ = false := fun j => by
    simp only [World.frozen?, hh]
    simp
  have hc : ∀ j, 3 ≤ j → (w.alloc (.cells (((Z.setIfInBounds 0 (.int .i64 (s : Int))).setIfInBounds 1 (.int .i64 (n : Int))).setIfInBounds 2 (.int .i64 (k : Int))) 121)).cell? ⟨w.heap.size, j, none⟩ = Z[j]? := fun j hj => by
    rw [cell_of_row _ _ _ _ _ _ hh, Array.getElem?_setIfInBounds_ne (by omega), Array.getElem?_setIfInBounds_ne (by omega), Array.getElem?_setIfInBounds_ne (by omega)]
  have hl : (plc (List.replicate 64 fr)).length = 320 := by rw [plc_length]; rfl
  have hi3 : (ints [0, 0, 0]).length = 3 := rfl
  have hz : ∀ j, j < 320 → Z[3 + j]? = (plc (List.replicate 64 fr))[j]? := fun j hj => by
    rw [hZ, List.getElem?_toArray, List.getElem?_append_right (by omega), List.getElem?_append_left (by omega), hi3, Nat.add_sub_cancel_left]
  have ht : ∀ j, j < 3 → Z[323 + j]? = (ints [0, 0, 0])[j]? := fun j hj => by
    rw [hZ, List.getElem?_toArray, List.getElem?_append_right (by omega), List.getElem?_append_right (by omega), hi3, hl, show 323 + j - 3 - 320 = j by omega]
  refine ⟨?_, ?_, ?_, fun r hr j v hv => ?_, fun j hj => ⟨?_, hf _⟩, fun r => rfl, ⟨?_, hf _⟩, ⟨?_, hf _⟩, ⟨?_, hf _⟩, h1, h2, h3, h4⟩
  · rw [cell_of_row _ _ _ _ _ _ hh]; simp [hs]
  · rw [cell_of_row _ _ _ _ _ _ hh]; simp [hs]
  · rw [cell_of_row _ _ _ _ _ _ hh]; simp [hs]
  · have hj : j < 20 := (List.getElem?_eq_some_iff.1 hv).1
    rw [hc _ (by omega), Nat.add_assoc, hz _ (by omega)]
    exact free_row r hr j v hv
  · rw [hc _ (by omega)]
    simp [hs]
    omega
  · rw [hc _ (by omega)]; exact ht 0 (by omega)
  · rw [hc _ (by omega)]; exact ht 1 (by omega)
  · rw [hc _ (by omega)]; exact ht 2 (by omega)
set_option maxRecDepth 100000 in
theorem new_ok (s n k : Nat) (w : World) (h1 : s ≤ 16) (h2 : 1 ≤ n) (h3 : n ≤ 4) (h4 : k ≤ 64) :
    Calls Try.prog 25 #[.int .i64 (s : Int), .int .i64 (n : Int), .int .i64 (k : Int)] w fun e w' => ∃ g, e = .returned (.tuple #[.pointer (some ⟨g, 0, none⟩), .int .i64 0]) ∧ Ca w' g s n k R0 0 0 0 ∧ w.heap.size ≤ g ∧ Below w.heap.size w w' := by
  have hz := fun W => zero_of zinfo61 W
  obtain ⟨Z, hZ⟩ : ∃ Z, Z = (ints [0, 0, 0] ++ (plc (List.replicate 64 fr) ++ ints [0, 0, 0])).toArray := ⟨_, rfl⟩
  rw [← hZ] at hz
  have hs : Z.size = 326 := by rw [hZ]; simp [plc_length, ints]
  have hZ0 : (Z = #[]) = False := eq_false (fun h => by rw [h] at hs; simp at hs)
  have HN := hid (Ca.new w s n k h1 h2 h3 h4 Z hZ)
  clear hZ
  have hd1 : decide ((s : Int) < 0) = false := decide_eq_false (by omega)
  have hd2 : decide ((s : Int) > 16) = false := decide_eq_false (by omega)
  have hd3 : decide ((n : Int) < 1) = false := decide_eq_false (by omega)
  have hd4 : decide ((n : Int) > 4) = false := decide_eq_false (by omega)
  have hd5 : decide ((k : Int) < 0) = false := decide_eq_false (by omega)
  have hd6 : decide ((k : Int) > 64) = false := decide_eq_false (by omega)
  clear h1 h2 h3 h4
  go_enter Try.func25, Try.ntmps25
  go_wp2
  exact bodyPost_ret (v := .tuple #[.pointer (some ⟨w.heap.size, 0, none⟩), .int .i64 0]) (by simp [results, Try.results25, go_sem]) rfl ⟨w.heap.size, rfl, HN.out, Nat.le_refl _, below1 _ _⟩
end Go.Proofs.Ytlelglfdamakaaa.K
namespace Go.Proofs.Ytlelglfdamakaaa.K
open Go.RowKit
set_option linter.unusedVariables false
variable {w w' : World} {g s n k : Nat} {R : Nat → List Pl} {e hi mi : Int}

theorem cast_mod (x N : Nat) (hx : x < B64) (hN : 0 < N) (hb : N ≤ 16) : IntKind.i64.wrap ((x : Int) % (N : Int)) = ((x % N : Nat) : Int) := by
  have : x % N < N := Nat.mod_lt _ hN
  rw [IntKind.wrap_i64]
  omega
/-- A capability's two halves of a word. -/
def okC (c : Cp) : Prop := c.2.1 < B64 ∧ c.2.2 < B64
/-- Which set a capability has. -/
def rowN (k s : Nat) (c : Cp) : Nat := lowN (hashN (objN c.1) c.2.1 c.2.2) (k : Int) % s
theorem rowN_lt {k s : Nat} (c : Cp) (h : 0 < s) : rowN k s c < s := Nat.mod_lt _ h
set_option maxRecDepth 100000 in
set_option maxHeartbeats 1000000 in
theorem row_any (h : Ca w g s n k R e hi mi) (c : Cp) (hc : okC c) (hs : 0 < s) :
    Calls Try.prog 89 #[.pointer (some ⟨g, 0, none⟩), .agg #[.int .i64 c.1, .int .u64 (c.2.1 : Int), .int .u64 (c.2.2 : Int)]] w fun e w' => e = .returned (.int .i64 (rowN k s c : Int)) ∧ Below w.heap.size w w' := by
  obtain ⟨o, hi, lo⟩ := c
  obtain ⟨h1, h2⟩ := hc
  obtain ⟨w1, hw1⟩ : ∃ w1, w1 = w.alloc (Obj.cells #[.int .i64 o, .int .u64 (hi : Int), .int .u64 (lo : Int)] 32) := ⟨_, rfl⟩
  have hB1 : Below w.heap.size w w1 := by rw [hw1]; exact below1 _ _
  have hh := h.later hB1
  have hC : Hid (∀ U : World, Below w1.heap.size w1 U → (U.cell? ⟨w.heap.size, 0, none⟩ = some (.int .i64 o) ∧ U.cell? ⟨w.heap.size, 1, none⟩ = some (.int .u64 (hi : Int)) ∧ U.cell? ⟨w.heap.size, 2, none⟩ = some (.int .u64 (lo : Int)) ∧ U.cell? ⟨g, 0, none⟩ = some (.int .i64 (s : Int)) ∧ U.cell? ⟨g, 2, none⟩ = some (.int .i64 (k : Int))) ∧ Below w1.heap.size w1 U) := fun U hU =>
    ⟨⟨cell_later hU (by rw [hw1]; simp [go_sem]), cell_later hU (by rw [hw1]; simp [go_sem]), cell_later hU (by rw [hw1]; simp [go_sem]), cell_later hU hh.c0, cell_later hU hh.c2⟩, hU⟩
  have hls := h.ls
  have HX : Hid (lowN (hashN (objN o) hi lo) (k : Int) < B64) := lowN_lt _ (hashN_lt _ _ _)
  have HM : Hid (rowN k s (o, hi, lo) = lowN (hashN (objN o) hi lo) (k : Int) % s) := rfl
  have hH := fun W => hash_any o hi lo (k : Int) W h1 h2
  generalize lowN (hashN (objN o) hi lo) (k : Int) = x at HX HM hH
  have HR := hid (cast_mod x s HX.out hs hls)
  have hu : IntKind.u64.wrap (s : Int) = (s : Int) := by rw [IntKind.wrap_u64]; omega
  have hz : ¬ s = 0 := by omega
  clear h hh
  go_enter Try.func89, Try.ntmps89
  go_wp2
  rw [← hw1]
  have HB1 := hid hB1
  clear hw1 hB1
  go_region_held3 (fun U => (U.cell? ⟨w.heap.size, 0, none⟩ = some (.int .i64 o) ∧ U.cell? ⟨w.heap.size, 1, none⟩ = some (.int .u64 (hi : Int)) ∧ U.cell? ⟨w.heap.size, 2, none⟩ = some (.int .u64 (lo : Int)) ∧ U.cell? ⟨g, 0, none⟩ = some (.int .i64 (s : Int)) ∧ U.cell? ⟨g, 2, none⟩ = some (.int .i64 (k : Int))) ∧ Below w1.heap.size w1 U) (first | exact hC.out _ (Below.refl _ _).drew | exact hC.out _ hb2.out) (first | (go_at_call 95; refine (hH _).mono ?_; rintro e w2 ⟨rfl, hb2'⟩; have hb2 := hid (below_call (Below.refl w1.heap.size w1).drew hb2')))
  go_wp2
  go_ret
  exact ⟨ret_int (by rw [HM.out]; exact HR.out), below_call HB1.out (And.right (by assumption))⟩
theorem zinfo59 : (Try.prog.info? 119).map (fun i => (i.zero, i.size, i.bytes)) = some (some (.agg (plc (List.replicate 64 fr)).toArray), 320, 2560) := by kernel_rfl
theorem Ca.turned {E : Nat} (h : Ca w g s n k R e hi mi) (x : Int) : Ca ((w.setCell ⟨g, 323, none⟩ (.int .i64 x)).setCells g 3 (plc (List.replicate 64 fr))) g s n k R0 x hi mi := by
  have hl : (plc (List.replicate 64 fr)).length = 320 := by rw [plc_length]; rfl
  have ht : (w.setCell ⟨g, 323, none⟩ (.int .i64 x)).there g 3 320 := World.there_setCells h.th g 323 [.int .i64 x]
  have ho : ∀ j, j < 3 ∨ 323 ≤ j → ((w.setCell ⟨g, 323, none⟩ (.int .i64 x)).setCells g 3 (plc (List.replicate 64 fr))).cell? ⟨g, j, none⟩ = (w.setCell ⟨g, 323, none⟩ (.int .i64 x)).cell? ⟨g, j, none⟩ := fun j hj =>
    World.cell?_setCells_out g _ 3 _ ⟨g, j, none⟩ (fun _ _ => by show j < 3 ∨ 3 + _ ≤ j; rw [hl]; omega)
  have hn : ∀ j, j ≠ 323 → (w.setCell ⟨g, 323, none⟩ (.int .i64 x)).cell? ⟨g, j, none⟩ = w.cell? ⟨g, j, none⟩ := fun j hj => World.cell?_setCell_other _ _ _ _ (fun e => hj (by cases e; rfl))
  have hf : ∀ j, ((w.setCell ⟨g, 323, none⟩ (.int .i64 x)).setCells g 3 (plc (List.replicate 64 fr))).frozen? ⟨g, j, none⟩ = w.frozen? ⟨g, j, none⟩ := fun j => by rw [World.frozen?_setCells]; simp
  refine ⟨?_, ?_, ?_, fun r hr j v hv => ?_, World.there_setCells ht _ _ _, fun r => rfl, ⟨?_, ?_⟩, ⟨?_, ?_⟩, ⟨?_, ?_⟩, h.ls, h.n1, h.n4, h.lk⟩
  · rw [ho _ (by omega), hn _ (by omega)]; exact h.c0
  · rw [ho _ (by omega), hn _ (by omega)]; exact h.c1
  · rw [ho _ (by omega), hn _ (by omega)]; exact h.c2
  · have hj : j < 20 := (List.getElem?_eq_some_iff.1 hv).1
    rw [Nat.add_assoc]
    exact World.rangeAt_setCells_same _ g 3 _ (by rw [hl]; exact ht) _ _ (free_row r hr j v hv)
  · rw [ho _ (by omega)]; exact World.cell?_setCell_same _ _ _ h.ce.1
  · rw [hf]; exact h.ce.2
  · rw [ho _ (by omega), hn _ (by omega)]; exact h.ch.1
  · rw [hf]; exact h.ch.2
  · rw [ho _ (by omega), hn _ (by omega)]; exact h.cm.1
  · rw [hf]; exact h.cm.2
set_option maxRecDepth 100000 in
theorem turn_any {E : Nat} (h : Ca w g s n k R (E : Int) hi mi) (hE : E < 256) : Calls Try.prog 40 #[.pointer (some ⟨g, 0, none⟩)] w fun x w' => x = .returned (.tuple #[]) ∧ Ca w' g s n k R0 (((E + 1) % 256 : Nat) : Int) hi mi ∧ But (fun k => k = g) w w' := by
  have c := h.ce.1
  have d := h.ce.2
  have hz := fun W => zero_of zinfo59 W
  obtain ⟨Z, hZ⟩ : ∃ Z, Z = plc (List.replicate 64 fr) := ⟨_, rfl⟩
  have hv : (((E + 1) % 256 : Nat) : Int) = ((E : Int) + 1) % 256 := by omega
  rw [hv]
  have hT := hid (h.turned (E := E) (((E : Int) + 1) % 256))
  rw [← hZ] at hz hT
  have hl : Z.length = 320 := by rw [hZ, plc_length]; rfl
  have hZ0 : (Z = []) = False := eq_false (fun h => by rw [h] at hl; simp at hl)
  have hw : IntKind.i64.wrap ((E : Int) + 1) = ((E + 1 : Nat) : Int) := by rw [IntKind.wrap_i64]; omega
  have HST := stc (w := w.setCell ⟨g, 323, none⟩ (.int .i64 (((E : Int) + 1) % 256))) (L := Z) (n := 320) (World.there_setCells h.th g 323 [.int .i64 (((E : Int) + 1) % 256)]) hl (by rw [hZ]; exact plc_one _)
  have hB : Hid (But (fun k => k = g) w ((w.setCell ⟨g, 323, none⟩ (.int .i64 (((E : Int) + 1) % 256))).setCells g 3 Z)) := But.setCells (S := fun k => k = g) rfl Z 3 ((But.refl (fun k => k = g) w).setCell (p := ⟨g, 323, none⟩) rfl _)
  generalize (w.setCell ⟨g, 323, none⟩ (.int .i64 (((E : Int) + 1) % 256))).setCells g 3 Z = w3 at hT HST hB
  clear hZ h hv
  go_enter Try.func40, Try.ntmps40
  go_wp2
  exact bodyPost_end (by simp [results, Try.results40, go_sem]) rfl ⟨rfl, hT.out, hB.out⟩
end Go.Proofs.Ytlelglfdamakaaa.K
