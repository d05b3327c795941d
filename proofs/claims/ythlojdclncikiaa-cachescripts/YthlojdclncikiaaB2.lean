import Derived.Test.YthlojdclncikiaaB1
namespace Go.Proofs.Ythlojdclncikiaa
open Go.RowKit
set_option linter.unusedVariables false

/-- A load whose run is known. -/
theorem ld_arm {P : Program} {w : World} {ops : Array Oper} {rest : List Oper} {a : Act} {Q : Exit → Act → World → Prop} {d : Option Tmp} {tt : TypeId} {ps : String} {af} {ty : TypeId} {x : Operand} {p v : Value}
    (hr : (Instr.loadAt ty p).run P w = .ok v w) (hx : a.eval x = p) (h : wpList P ops Q rest (a.put d v) w) :
    wpList P ops Q ({ dst := d, op := .load ty x, type := tt, pos := ps, after := af, guard := none } :: rest) a w := by
  refine wpList_plain rfl fun K hK => ?_
  unfold Oper.wp execOp
  simp only [hx, hr, Sem.run_bind, Sem.run_pure, Result.andThen_ok]
  exact hK _ _ h
/-- A store whose run is known. -/
theorem st_arm {P : Program} {w w' : World} {ops : Array Oper} {rest : List Oper} {a : Act} {Q : Exit → Act → World → Prop} {d : Option Tmp} {tt : TypeId} {ps : String} {af} {ty : TypeId} {x y : Operand} {p v : Value}
    (hr : (Instr.storeAt ty p v).run P w = .ok () w') (hx : a.eval x = p) (hy : a.eval y = v) (h : wpList P ops Q rest (a.put d undef) w') :
    wpList P ops Q ({ dst := d, op := .store ty x y, type := tt, pos := ps, after := af, guard := none } :: rest) a w := by
  refine wpList_plain rfl fun K hK => ?_
  unfold Oper.wp execOp
  simp only [hx, hy, hr, Sem.run_bind, Sem.run_pure, Result.andThen_ok]
  exact hK _ _ h
theorem plc_get : ∀ (Q : List Pl) (j : Nat), (plc Q)[j]? = (Q[j / 5]?).bind (fun x => (encP x)[j % 5]?)
  | [], j => by simp [plc]
  | a :: r, j => by
    have ih := plc_get r
    unfold plc at ih ⊢
    rw [List.flatMap_cons]
    have hl : (encP a).length = 5 := rfl
    by_cases h : j < 5
    · rw [List.getElem?_append_left (by omega), Nat.div_eq_of_lt h, Nat.mod_eq_of_lt h]
      rfl
    · rw [List.getElem?_append_right (by omega), hl, ih, show j / 5 = (j - 5) / 5 + 1 by omega, show j % 5 = (j - 5) % 5 by omega]
      rfl
theorem there_range {w : World} {b o : Nat} {cs : List Value} (h : w.rangeAt b o cs) (hf : ∀ j, w.frozen? ⟨b, j, none⟩ = false) : w.there b o cs.length := fun j hj => ⟨h.isSome j hj, hf _⟩
theorem range_set {w : World} {b o : Nat} {Q : List Pl} {i : Nat} (h : w.rangeAt b o (plc Q)) (hi : i < Q.length) (p : Pl) : (w.setCells b (o + i * 5) (encP p)).rangeAt b o (plc (Q.set i p)) := fun j v hv => by
  rw [plc_get] at hv
  by_cases e : j / 5 = i
  · subst e
    rw [List.getElem?_set_self hi] at hv
    have hlt : j % 5 < (encP p).length := Nat.mod_lt _ (by decide)
    have := World.cell?_setCells_in b (encP p) (o + j / 5 * 5) w (fun d hd => by
      have hd5 : d < 5 := hd
      rw [Nat.add_assoc]
      exact h.isSome _ (by rw [plc_length]; omega)) (j % 5) hlt
    rw [show o + j / 5 * 5 + j % 5 = o + j by omega] at this
    rw [this]
    simpa [hlt] using hv
  · rw [List.getElem?_set_ne (fun h => e h.symm), ← plc_get] at hv
    rw [World.cell?_setCells_out b (encP p) (o + i * 5) w ⟨b, o + j, none⟩ (fun _ _ => by
      have hl : (encP p).length = 5 := rfl
      show o + j < o + i * 5 ∨ o + i * 5 + (encP p).length ≤ o + j
      omega)]
    exact h j v hv
theorem info58 : (Try.prog.info? 58).map (·.size) = some 20 := by kernel_rfl
/-- A free place. -/
def fr : Pl := (false, (0, 0, 0), 0)
theorem zinfo58 : (Try.prog.info? 58).map (fun i => (i.zero, i.size, i.bytes)) = some (some (.agg (plc (List.replicate 4 fr)).toArray), 20, 160) := by kernel_rfl
theorem zero_of {t : TypeId} {z : Value} {s b : Nat} (h : (Try.prog.info? t).map (fun i => (i.zero, i.size, i.bytes)) = some (some z, s, b)) (w : World) : (zeroValue t).run Try.prog w = .ok z w := by
  obtain ⟨i, hi, hz0, hz1, hz2⟩ := info_parts h
  simp [zeroValue, typeInfo, hi, hz0]
theorem load58 {w : World} {b o : Nat} {L : List Value} (h : w.rangeAt b o L) (hl : L.length = 20) : (Instr.loadAt 58 (.pointer (some ⟨b, o, none⟩))).run Try.prog w = .ok (.agg L.toArray) w :=
  run_loadAt_mid w b o 58 L _ h Try.underlying58 rfl (by rw [info58, hl])
theorem store58 {w : World} {b o : Nat} {L : List Value} (h : w.there b o 20) (hl : L.length = 20) (h1 : ∀ v ∈ L, v.oneCell' = true) : (Instr.storeAt 58 (.pointer (some ⟨b, o, none⟩)) (.agg L.toArray)).run Try.prog w = .ok () (w.setCells b o L) :=
  run_storeAt_mid w b o 58 L.toArray (by simpa [hl] using h) (by rw [info58]; simp [hl]) (all_oneCell_toArray h1)
theorem stc {w : World} {b o n : Nat} {L : List Value} (h : w.there b o n) (hl : L.length = n) (h1 : ∀ v ∈ L, v.oneCell' = true) : (storeCells ⟨b, o, none⟩ L).run Try.prog w = .ok () (w.setCells b o L) :=
  run_storeCells_cells (P := Try.prog) b o L 0 w (fun j hj => by rw [Nat.add_zero]; exact (h j (by omega)).1) (fun j hj => by rw [Nat.add_zero]; exact (h j (by omega)).2) h1
/-- The set in the midst of being moved: i places are. -/
def mvd (P : List Pl) (i : Nat) : List Pl := P.take 1 ++ P.take i ++ P.drop (i + 1)
def LdRel (W : World) (b : Nat) (P : List Pl) (k : Nat) (t : Value) (w : World) : Prop :=
  ∃ i : Nat, i ≤ k ∧ t = .int .i64 (i : Int) ∧ w.rangeAt b 0 (plc (mvd P i)) ∧ w.there b 0 20 ∧ But (fun x => x = b) W w
theorem four {P : List Pl} (h : P.length = 4) : ∃ a b c d, P = [a, b, c, d] := by
  match P, h with
  | [a, b, c, d], _ => exact ⟨a, b, c, d, rfl⟩
theorem mvd_len {P : List Pl} {i : Nat} (h : P.length = 4) (hi : i < 4) : (mvd P i).length = 4 := by simp [mvd, h]; omega
theorem mvd_next {P : List Pl} {i : Nat} {p : Pl} (h : P.length = 4) (hi : i + 1 < 4) (hp : P[i]? = some p) : (mvd P i).set (i + 1) p = mvd P (i + 1) := by
  obtain ⟨a, b, c, d, rfl⟩ := four h
  match i, hi with
  | 0, _ => cases hp; rfl
  | 1, _ => cases hp; rfl
  | 2, _ => cases hp; rfl
theorem mvd_last {P : List Pl} {k : Nat} (p : Pl) (h : P.length = 4) (hk : k < 4) : (mvd P k).set 0 p = p :: P.eraseIdx k := by
  obtain ⟨a, b, c, d, rfl⟩ := four h
  match k, hk with
  | 0, _ => rfl
  | 1, _ => rfl
  | 2, _ => rfl
  | 3, _ => rfl
theorem mvd_zero {P : List Pl} (h : P.length = 4) : mvd P 0 = P := by
  obtain ⟨a, b, c, d, rfl⟩ := four h
  rfl
theorem there_new (W : World) (A : Array Value) (t : TypeId) (n : Nat) (h : A.size = n) : (W.alloc (.cells A t)).there W.heap.size 0 n := fun j hj => by
  rw [Nat.zero_add, cell_of_row _ _ _ _ _ _ (heap_alloc_new W (.cells A t))]
  refine ⟨by simp; omega, ?_⟩
  simp only [World.frozen?, heap_alloc_new]
  simp
theorem there_later {w w' : World} {b o n : Nat} (h : w.there b o n) (hb : Below w.heap.size w w') : w'.there b o n := fun j hj => by
  obtain ⟨h1, h2⟩ := h j hj
  obtain ⟨u, hu⟩ := Option.isSome_iff_exists.1 h1
  exact ⟨by rw [cell_later hb hu]; rfl, by rw [hb.frozen (World.block_lt_of_cell? _ _ hu)]; exact h2⟩
theorem there_but {S : Nat → Prop} {w w' : World} {b o n : Nat} (h : w.there b o n) (hb : But S w w') (hn : ¬ S b) : w'.there b o n := fun j hj => by
  obtain ⟨h1, h2⟩ := h j hj
  obtain ⟨u, hu⟩ := Option.isSome_iff_exists.1 h1
  have := (Lies.but hb ⟨hu, h2⟩ hn)
  exact ⟨by rw [this.1]; rfl, this.2⟩
set_option maxRecDepth 100000 in
set_option maxHeartbeats 1000000 in
theorem lead_any (P : List Pl) (p : Pl) (k : Nat) (w : World) (hl : P.length = 4) (hk : k < 4) :
    Calls Try.prog 21 #[.agg (plc P).toArray, .agg #[.bool p.1, .int .i64 p.2.1.1, .int .u64 (p.2.1.2.1 : Int), .int .u64 (p.2.1.2.2 : Int), .int .i64 p.2.2], .int .i64 (k : Int)] w fun e w' => e = .returned (.agg (plc (p :: P.eraseIdx k)).toArray) ∧ Below w.heap.size w w' := by
  have hs : (plc P).length = 20 := by rw [plc_length, hl]
  have hz := fun W => zero_of zinfo58 W
  obtain ⟨Z, hZ⟩ : ∃ Z, Z = plc (List.replicate 4 fr) := ⟨_, rfl⟩
  have hZl : Z.length = 20 := by rw [hZ, plc_length]; rfl
  rw [← hZ] at hz
  have HZ := hid hZ
  clear hZ
  obtain ⟨A, hA⟩ : ∃ A, A = plc P := ⟨_, rfl⟩
  rw [← hA]
  have HA := hid hA
  have HAl : Hid (A.length = 20) := by rw [hA]; exact hs
  have HZl := hid hZl
  have HL := hid hl
  clear hA hs hZl hl
  obtain ⟨Z', hZ'⟩ : ∃ Z', Z' = Z.toArray := ⟨_, rfl⟩
  rw [← hZ'] at hz
  have HZ' := hid hZ'
  clear hZ'
  have hAl := HAl.out
  go_enter Try.func21, Try.ntmps21
  go_upto_region 1 with fail
  generalize hw3 : (((w.alloc (Obj.cells A.toArray 58)).alloc (Obj.cells #[Value.bool p.1, Value.int IntKind.i64 p.2.1.1, Value.int IntKind.u64 (p.2.1.2.1 : Int), Value.int IntKind.u64 (p.2.1.2.2 : Int), Value.int IntKind.i64 p.2.2] 56)).alloc (Obj.cells Z' 58)) = w3
  have HS3 : Hid (w3.heap.size = w.heap.size + 3) := by rw [← hw3]; simp [Hid]
  have HB3 : Hid (Below w.heap.size w w3) := by rw [← hw3]; exact (below2 _ _ _).alloc (by simp; omega) _
  have HR3 : Hid (w3.rangeAt w.heap.size 0 A) := by
    rw [← hw3]
    exact range_later (range_later (range_new w A 58) (below1 _ _)) (below1 _ _)
  have HP3 : Hid (Ce w3 (w.heap.size + 1) 0 p) := by
    rw [← hw3]
    exact ⟨by simp [go_sem], by simp [go_sem], by simp [go_sem], by simp [go_sem], by simp [go_sem]⟩
  have HT3 : Hid (w3.there (w.heap.size + 1 + 1) 0 20) := by
    have := there_new ((w.alloc (Obj.cells A.toArray 58)).alloc (Obj.cells #[Value.bool p.1, Value.int IntKind.i64 p.2.1.1, Value.int IntKind.u64 (p.2.1.2.1 : Int), Value.int IntKind.u64 (p.2.1.2.2 : Int), Value.int IntKind.i64 p.2.2] 56)) Z' 58 20 (by rw [HZ'.out]; simp [HZl.out])
    rw [hw3] at this
    simp at this
    exact this
  clear hw3
  have HLD := hid (load58 HR3.out HAl.out)
  have HTN := hid (there_new w3 Z' 58 20 (by rw [HZ'.out]; simp [HZl.out]))
  have HST := stc (L := A) (n := 20) HTN.out HAl.out (by rw [HA.out]; exact plc_one P)
  generalize hw4 : (w3.alloc (Obj.cells Z' 58)).setCells w3.heap.size 0 A = w4 at HST
  have HB4 : Hid (Below w3.heap.size w3 w4) := by
    rw [← hw4]
    exact But.below (below1 w3 _) (But.setCells (S := fun x => x = w3.heap.size) rfl A 0 (But.refl _ _)) (fun k hk => by omega)
  have HS4 : Hid (w3.heap.size < w4.heap.size) := by rw [← hw4, size_setCells]; simp [Hid]
  have HR4 : Hid (w4.rangeAt w3.heap.size 0 (plc (mvd P 0))) := by
    rw [← hw4, mvd_zero HL.out, ← HA.out]
    exact World.rangeAt_setCells_same _ _ _ _ (by rw [HAl.out]; exact HTN.out)
  have HT4 : Hid (w4.there w3.heap.size 0 20) := by rw [← hw4]; exact World.there_setCells HTN.out _ _ _
  clear hw4 HTN
  go_upto_region 3 with (first | ((with_reducible refine ld_arm HLD.out ?_ ?_); · rfl))
  clear HST HLD
  go_loopw [11] (LdRel w4 w3.heap.size P k) (fun t _ => k - (intOf t).toNat)
  case atStart => exact ⟨0, by omega, rfl, HR4.out, HT4.out, But.refl _ _⟩
  case round =>
    obtain ⟨i, hi, rfl, hR, hT, hB⟩ := hrel
    have hne := HS3.out
    have h34 := HS4.out
    have HR := hid hR
    have HT := hid hT
    have HB := hid hB
    clear hR hT hB
    by_cases hlt : i < k
    · have hi4 : (i : Int) < 4 := by omega
      have hi5 : (i : Int) + 1 < 4 := by omega
      have hwr : IntKind.i64.wrap ((i : Int) + 1) = ((i + 1 : Nat) : Int) := by rw [IntKind.wrap_i64]; omega
      obtain ⟨x, hx⟩ : ∃ x, P[i]? = some x := ⟨_, List.getElem?_eq_getElem (by rw [HL.out]; omega)⟩
      obtain ⟨y, hy⟩ : ∃ y, (mvd P i)[i + 1]? = some y := ⟨_, List.getElem?_eq_getElem (by rw [mvd_len HL.out (by omega)]; omega)⟩
      have hX := ((ce_of (by rw [← HA.out]; exact HR3.out) hx).later HB4.out).but HB.out (by omega)
      have hY := ce_of HR.out hy
      rw [Nat.zero_add] at hX hY
      have hF := fun (d : Nat) (hd : d < 5) => (HT.out ((i + 1) * 5 + d) (by omega)).2
      simp only [Nat.zero_add] at hF
      obtain ⟨x0, x1, x2, x3, x4⟩ := hX
      obtain ⟨y0, y1, y2, y3, y4⟩ := hY
      have f0 := hF 0 (by omega)
      have f1 := hF 1 (by omega)
      have f2 := hF 2 (by omega)
      have f3 := hF 3 (by omega)
      have f4 := hF 4 (by omega)
      rw [Nat.add_zero] at f0
      have HX := hid hx
      clear hF hne h34 hx hy
      go_wp2
      refine ⟨⟨i + 1, by omega, by go_num, ?_, World.there_setCells HT.out _ ((i + 1) * 5) (encP x), HB.out.trans (But.setCells (S := fun x => x = w3.heap.size) rfl (encP x) ((i + 1) * 5) (But.refl _ _))⟩, by simp [intOf]; omega⟩
      have := range_set HR.out (i := i + 1) (by rw [mvd_len HL.out (by omega)]; omega) x
      rw [mvd_next HL.out (by omega) HX.out, Nat.zero_add] at this
      exact this
    · obtain rfl : i = k := by omega
      have hX := ((HP3.out).later HB4.out).but HB.out (by omega)
      obtain ⟨x0, x1, x2, x3, x4⟩ := hX
      obtain ⟨y, hy⟩ : ∃ y, (mvd P i)[0]? = some y := ⟨_, List.getElem?_eq_getElem (by rw [mvd_len HL.out (by omega)]; omega)⟩
      have hY := ce_of HR.out hy
      obtain ⟨y0, y1, y2, y3, y4⟩ := hY
      have hF := fun (d : Nat) (hd : d < 5) => (HT.out d (by omega)).2
      have f0 := hF 0 (by omega)
      have f1 := hF 1 (by omega)
      have f2 := hF 2 (by omega)
      have f3 := hF 3 (by omega)
      have f4 := hF 4 (by omega)
      simp only [Nat.zero_mul, Nat.zero_add] at x0 x1 x2 x3 x4 y0 y1 y2 y3 y4 f0 f1 f2 f3 f4
      clear hF hne h34 hy
      go_upto_region 8 with fail
      have HR5 : Hid ((((((wr.setCell ⟨w3.heap.size, 0, none⟩ (.bool p.1)).setCell ⟨w3.heap.size, 1, none⟩ (.int .i64 p.2.1.1)).setCell ⟨w3.heap.size, 2, none⟩ (.int .u64 (p.2.1.2.1 : Int))).setCell ⟨w3.heap.size, 3, none⟩ (.int .u64 (p.2.1.2.2 : Int))).setCell ⟨w3.heap.size, 4, none⟩ (.int .i64 p.2.2)).rangeAt w3.heap.size 0 (plc (p :: P.eraseIdx i))) := by
        have := range_set HR.out (i := 0) (by rw [mvd_len HL.out (by omega)]; omega) p
        rw [mvd_last p HL.out (by omega)] at this
        exact this
      have HB5 : Hid (But (fun x => x = w3.heap.size) w4 (((((wr.setCell ⟨w3.heap.size, 0, none⟩ (.bool p.1)).setCell ⟨w3.heap.size, 1, none⟩ (.int .i64 p.2.1.1)).setCell ⟨w3.heap.size, 2, none⟩ (.int .u64 (p.2.1.2.1 : Int))).setCell ⟨w3.heap.size, 3, none⟩ (.int .u64 (p.2.1.2.2 : Int))).setCell ⟨w3.heap.size, 4, none⟩ (.int .i64 p.2.2))) := HB.out.trans (But.setCells (S := fun x => x = w3.heap.size) rfl (encP p) 0 (But.refl _ _))
      generalize (((((wr.setCell ⟨w3.heap.size, 0, none⟩ (.bool p.1)).setCell ⟨w3.heap.size, 1, none⟩ (.int .i64 p.2.1.1)).setCell ⟨w3.heap.size, 2, none⟩ (.int .u64 (p.2.1.2.1 : Int))).setCell ⟨w3.heap.size, 3, none⟩ (.int .u64 (p.2.1.2.2 : Int))).setCell ⟨w3.heap.size, 4, none⟩ (.int .i64 p.2.2)) = w5 at *
      obtain ⟨N, hN⟩ : ∃ N, N = plc (p :: P.eraseIdx i) := ⟨_, rfl⟩
      have hNl : N.length = 20 := by rw [hN, plc_length, List.length_cons, List.length_eraseIdx, HL.out, if_pos (by omega)]
      have HN1 : Hid (∀ v ∈ N, v.oneCell' = true) := by rw [hN]; exact plc_one _
      rw [← hN] at HR5
      have HN := hid hN
      have HT5 : Hid (w5.there (w.heap.size + 1 + 1) 0 20) := there_but (there_later HT3.out HB4.out) HB5.out (by have := HS3.out; omega)
      have HLD := hid (load58 HR5.out hNl)
      have HST := stc (L := N) (n := 20) HT5.out hNl HN1.out
      have HB6 : Hid (Below w.heap.size w (w5.setCells (w.heap.size + 1 + 1) 0 N)) :=
        But.below (But.below (below_call HB3.out HB4.out) HB5.out (fun k hk => by have := HS3.out; omega)) (But.setCells (S := fun x => x = w.heap.size + 1 + 1) rfl N 0 (But.refl _ _)) (fun k hk => by omega)
      have HLR := hid (run_loadVar_mid (P := Try.prog) (w5.setCells (w.heap.size + 1 + 1) 0 N) (w.heap.size + 1 + 1) 0 58 N _ (World.rangeAt_setCells_same _ _ _ _ (by rw [hNl]; exact HT5.out)) Try.underlying58 rfl (by rw [info58, hNl]))
      generalize w5.setCells (w.heap.size + 1 + 1) 0 N = w6 at HST HB6 HLR
      clear hN
      go_wp2_with (first | ((with_reducible refine ld_arm HLD.out ?_ ?_); · rfl))
      refine bodyPost_ret (v := .agg N.toArray) ?_ rfl ⟨by rw [HN.out], HB6.out⟩
      have hlr := HLR.out
      simp [results, Try.results21, asAddr, hlr]
end Go.Proofs.Ythlojdclncikiaa
