import Derived.Test.YtpajmpfdaihehaaB5
namespace Go.Proofs.Ytpajmpfdaihehaa
open Go.RowKit Go.Shelf
set_option linter.unusedVariables false
attribute [local go_sem] Oper.semAt_some

theorem wpListIn_append_known {F : Fence} {n : Nat} {P : Program} {w : World} {ops : Array Oper} {rest : List Oper} {o : Oper} {a : Act} {Q : Exit → Act → World → Prop} (hgd : o.guard = none) (s x : Operand) (t : TypeId)
    (ho : o.op = .call { callee := .builtin .append, args := #[s, x], argTypes := #[t, t] }) (vs vx : Value) (hs : a.eval s = vs) (hx : a.eval x = vx) (v' : Value) (w' : World)
    (hr : (Builtin.append_ #[t, t] o.type #[vs, vx]).run P w = .ok v' w') (h : wpListIn F n P ops Q rest (a.put o.dst v') w') : wpListIn F n P ops Q (o :: rest) a w := by
  refine wpListIn_plain hgd fun K hK => ?_
  unfold Oper.wpIn
  refine ⟨by simp [Oper.about, ho, resolve, Target.leads, Sem.run_pure], ?_⟩
  rw [Oper.semAt_plain F _ _ (by rw [ho]; intro c hc; cases hc)]
  simp [execOp, ho, resolve, invoke, builtin, hs, hx, hr, Result.andThen]
  exact hK _ _ h
theorem eql_nil (b0 : Nat) (W : World) : Sem.run Try.prog (binOp BinOp.eql 42 (.func (.func 51) #[] #[.pointer (some ⟨b0, 0, none⟩)]) .nilFunc) W = .ok (.bool false) W := by
  unfold binOp Op.equal
  rw [show Op.maxDepth = 9999 + 1 from rfl]
  unfold Op.equalIn
  simp [go_sem]
/-- The blocks of a list that a variable holds, and the variable. -/
def BoxFp (B : Nat) (W : World) (k : Nat) : Prop := k = B ∨ ∃ a n c, W.cell? ⟨B, 0, none⟩ = some (.slice a n c) ∧ Blk a k
theorem own_cells {W : World} {base : Nat} {e : TypeId} {a : Option Addr} {n cap : Nat} {L : List Value} (h : Own W base e a n cap L) {k : Nat} (hk : Blk a k) : ∃ cs t z, W.heap[k]? = some (.cells cs t z) := by
  rcases h.row.2 with ⟨h1, _⟩ | ⟨g, c, cur, hv, hg, hh, r⟩
  · simp only [Value.slice.injEq] at h1
    obtain ⟨x, hx, _⟩ := hk
    rw [h1.1] at hx
    cases hx
  · simp only [Value.slice.injEq] at hv
    obtain ⟨x, hx, rfl⟩ := hk
    rw [hv.1] at hx
    cases hx
    exact ⟨_, _, _, hh⟩
theorem keeps_but {S : Nat → Prop} {B : Nat} {W W' : World} (h : But S W W') (hS : ∀ k o, W.heap[k]? = some o → o.isCells = false → B ≤ k → ¬ S k) : KeepsFrom B W W' :=
  ⟨h.size, fun k o hB hk ho => (h.block k (Array.getElem?_eq_some_iff.1 hk).1 (hS k o hk ho hB)).trans hk⟩
theorem kq_but {S : Nat → Prop} {Fp : World → Nat → Prop} {W W' : World} (h : But S W W') (hS : ∀ k, S k → Fp W k) (hf : ∀ k, Fp W' k → Fp W k ∨ W.heap.size ≤ k) : Kq Fp W W' :=
  ⟨h.size, fun k o hk _ hn => (h.block k (Array.getElem?_eq_some_iff.1 hk).1 (fun hs => hn (hS k hs))).trans hk, hf⟩
/-- A list that a variable holds. -/
def BoxOwn (B : Nat) (W : World) (A : List Int) : Prop := ∃ a c, Lies W ⟨B, 0, none⟩ (.slice a A.length c) ∧ Own W (B + 1) 3 a A.length c (ints A)
theorem boxOwn_from (B C : Nat) : OwnFrom C (fun A W => BoxOwn B W A) := by
  rintro A W W' row ⟨a, c, hl, hO⟩ hg hr
  refine ⟨a, c, ⟨cell_kept hl.1 hg (fun r e => (hr r e).2), (frozen_kept hl.1 hg (fun r e => (hr r e).2)).trans hl.2⟩, ⟨hO.row.kept hg ?_, hO.one⟩⟩
  cases a with
  | none => exact .inl (by have := hO.read.none_ rfl; rw [this.1, this.2]; rfl)
  | some x =>
    refine .inr fun e' => ?_
    obtain ⟨_, o, ho, hc⟩ := hr x.block (by simpa [Value.ownBlock] using e'.symm)
    obtain ⟨cs, t, z, hh⟩ := own_cells hO ⟨x, rfl, rfl⟩
    rw [ho] at hh
    cases hh
    cases hc
/-- One more behind the list's end. -/
theorem BoxOwn.append {B : Nat} {W : World} {A : List Int} (h : BoxOwn B W A) (x : Int) (hA : A.length ≤ 2048) :
    ∃ a c, Lies W ⟨B, 0, none⟩ (.slice a A.length c) ∧ ∃ a' c' w3, (Builtin.append_ #[28, 28] 28 #[.slice a A.length c, .slice (some ⟨W.heap.size, 0, none⟩) 1 1]).run Try.prog (W.alloc (Obj.cells #[.int .i64 x] 3)) = .ok (.slice a' (A.length + 1) c') w3 ∧
      Lies w3 ⟨B, 0, none⟩ (.slice a A.length c) ∧ ∀ w4, w4 = w3.setCell ⟨B, 0, none⟩ (.slice a' (A.length + 1) c') → w4.cell? ⟨B, 0, none⟩ = some (.slice a' (A.length + 1) c') ∧ BoxOwn B w4 (A ++ [x]) ∧ But (BoxFp B W) W w4 ∧ Kq (BoxFp B) W w4 ∧ (∀ C, KeepsFrom C W w4) ∧ ∀ k, BoxFp B W k → B ≤ k := by
  obtain ⟨a, c, hl, hO⟩ := h
  have hBl : B < W.heap.size := World.block_lt_of_cell? _ _ hl.1
  obtain ⟨a', c', w3, hrun, hO3, hG⟩ := append_one x (.inl hO) (by omega) (by omega)
  have hl3 : Lies w3 ⟨B, 0, none⟩ (.slice a A.length c) := hl.but hG.but (fun hb => by have := hO.blk B hb; omega)
  have hfp : ∀ k, BoxFp B W k → k = B ∨ Blk a k := fun k hk => by
    rcases hk with rfl | ⟨a2, n2, c2, h2, hk⟩
    · exact .inl rfl
    · rw [hl.1] at h2
      cases h2
      exact .inr hk
  refine ⟨a, c, hl, a', c', w3, hrun, hl3, ?_⟩
  rintro w4 rfl
  have hb4 : But (BoxFp B W) W (w3.setCell ⟨B, 0, none⟩ (.slice a' (A.length + 1) c')) :=
    (hG.but.mono (fun k hk => .inr ⟨a, _, c, hl.1, hk⟩)).setCell (p := ⟨B, 0, none⟩) (.inl rfl) _
  have hl4 := hl3.put (u := .slice a' (A.length + 1) c')
  have hO4 : Own (w3.setCell ⟨B, 0, none⟩ (.slice a' (A.length + 1) c')) (B + 1) 3 a' (A.length + 1) c' (ints (A ++ [x])) :=
    hO3.but (S := (· = B)) ((But.refl (· = B) _).setCell (p := ⟨B, 0, none⟩) (show B = B from rfl) _) (fun k hk e => by have := hO3.blk k hk; omega)
  refine ⟨hl4.1, ⟨a', c', by simpa using hl4, by simpa using hO4⟩, hb4, kq_but hb4 (fun k hk => hk) (fun k hk => ?_), fun C => keeps_but hb4 (fun k o hk ho _ hs => ?_), fun k hk => ?_⟩
  · rcases hk with rfl | ⟨a2, n2, c2, h2, hk⟩
    · exact .inl (.inl rfl)
    · rw [hl4.1] at h2
      cases h2
      rcases hG.on k hk with h3 | h3
      · exact .inl (.inr ⟨a, _, c, hl.1, h3⟩)
      · exact .inr h3
  · rcases hfp k hs with rfl | h3
    · have := hl.1
      unfold World.cell? at this
      rw [hk] at this
      cases o <;> simp_all [Obj.isCells]
    · obtain ⟨cs, t, z, hh⟩ := own_cells hO h3
      rw [hk] at hh
      cases hh
      cases ho
  · rcases hfp k hk with rfl | h3
    · exact Nat.le_refl _
    · have := hO.blk k h3
      omega
theorem boxFp_first {w : World} {B : Nat} (hl : w.cell? ⟨B, 0, none⟩ = some (.slice none 0 0)) (W : World) (hW : Below w.heap.size w W) (k : Nat) (hk : BoxFp B W k) : k < w.heap.size := by
  have hB := World.block_lt_of_cell? _ _ hl
  rcases hk with rfl | ⟨a, n, c, h2, hk⟩
  · exact hB
  · rw [cell_later hW hl] at h2
    cases h2
    obtain ⟨x, hx, _⟩ := hk
    cases hx
theorem boxFp_put {B C : Nat} (hB : B < C) (W : World) (L : Nat) (o o' : Obj) (hL : C ≤ L) (h : W.heap[L]? = some o) (ho : o.isCells = false) (k : Nat) (hk : BoxFp B (W.putObj L o') k) : BoxFp B W k := by
  rcases hk with rfl | ⟨a, n, c, h2, hk⟩
  · exact .inl rfl
  · refine .inr ⟨a, n, c, ?_, hk⟩
    have hne : (W.putObj L o').heap[B]? = W.heap[B]? := World.putObj_heap_other (by omega)
    rw [World.cell?_of_block (w := W) (w' := W.putObj L o') hne] at h2
    exact h2
theorem boxOwn_put {W : World} {base : Nat} {a : Option Addr} {n c : Nat} {L : List Value} (h : Own W base 3 a n c L) {D : Nat} {ds : List Deferred} (hK : W.heap[D]? = some (.deferred (some ds))) : Own (W.putObj D (.deferred none)) base 3 a n c L :=
  ⟨ownsRow_putObj h.row _ hK rfl, h.one⟩
set_option maxRecDepth 100000 in
set_option maxHeartbeats 2000000 in
theorem downs_any {w : World} {g gb m : Nat} {l : Fo} (h : Ki w g gb m l) (n : Int) :
    Calls Try.prog 9 #[.pointer (some ⟨g, 0, none⟩), .int .i64 n] w fun e w' => ∃ a k c, e = .returned (.tuple #[.slice a k c, .bool true]) ∧ Own w' w.heap.size 3 a k c (ints (tells true l n)) ∧ Below w.heap.size w w' := by
  have HK := hid h
  have htl := Nat.le_trans (tells_len h.ok true n) h.big
  clear h
  refine (callsIn_wide (n := 3)).1 ?_
  refine callsIn_of_wp_marks Try.func9 rfl trivial ?_ rfl
  simp only [Try.ntmps9, List.size_toArray, List.length_cons, List.length_nil, Nat.reduceAdd, Nat.reduceSub, Array.replicate_succ, Array.replicate_zero, List.push_toArray, List.append_toArray, List.nil_append, List.cons_append]
  have hnil := eql_nil
  have hmk := hid (make_any true g n)
  change Hid (∀ w, Calls Try.prog 18 _ w _) at hmk
  gi_wp2_with (refine ⟨trivial, ?_⟩; gi_at_call 18; refine (callsIn_wide.2 (hmk.out _)).mono ?_; rintro e w1 ⟨b0, rfl, hS, hB⟩; have HS := hid hS; have HB := hid hB; clear hS hB)
  have hB1 : Below w.heap.size w w1 := (below2 _ _ _).trans (HB.out.mono (by simp; omega))
  have c0 := (lies_new w (.slice none 0 0) 28).later (below1 _ (Obj.cells #[.bool false] 4)) |>.later HB.out
  have c1 := (lies_new (w.alloc (Obj.cells #[.slice none 0 0] 28)) (.bool false) 4).later HB.out
  rw [World.size_alloc] at c1
  have hsz2 : w.heap.size + 2 ≤ w1.heap.size := by have := HB.out.size; simp at this; omega
  have hK1 := HK.out.later hB1
  have hS1 := HS.out
  have hB2 : Below w.heap.size w (w1.alloc (Obj.cells #[.slice none 0 0] 28)) := hB1.alloc hB1.size _
  have hl0 := lies_new w1 (.slice none 0 0) 28
  have hsz3 : (w1.alloc (Obj.cells #[.slice none 0 0] 28)).heap.size = w1.heap.size + 1 := by simp
  refine range_any true (by omega) rfl (hS1.later (below1 _ _)) (hK1.later (below1 _ _)) (BoxFp w1.heap.size) (boxFp_first hl0.1) (boxFp_put (by simp)) rfl
    (fun pre W => ((BoxOwn w1.heap.size W pre ∧ Lies W ⟨w.heap.size, 0, none⟩ (.slice none 0 0)) ∧ Lies W ⟨w.heap.size + 1, 0, none⟩ (.bool false)) ∧ Below w.heap.size w W)
    (fun c pre W => False)
    (OwnFrom.and (OwnFrom.and (OwnFrom.and (boxOwn_from _ _) (lies_from _ _ _)) (lies_from _ _ _)) (ownFrom_below (Nat.le_refl _) hB2.size))
    (fun c => ownFrom_pure _ _)
    ⟨⟨⟨⟨none, 0, hl0, Own.nil _ _ _⟩, c0.alloc _⟩, c1.alloc _⟩, hB2⟩
    (fun x => { tmps := #[.pointer (some ⟨g, 0, none⟩), .int .i64 n, undef, undef, .pointer (some ⟨w.heap.size, 0, none⟩), .pointer (some ⟨w.heap.size + 1, 0, none⟩), .func (.func 51) #[] #[.pointer (some ⟨b0, 0, none⟩)], .pointer (some ⟨w1.heap.size, 0, none⟩), .int .i64 x, .pointer (some ⟨g, 0, none⟩), .int .i64 n, .func (.func 51) #[] #[.pointer (some ⟨b0, 0, none⟩)], .func (.func 51) #[] #[.pointer (some ⟨b0, 0, none⟩)], .bool false, .func (.func 51) #[] #[.pointer (some ⟨b0, 0, none⟩)], .int .i64 x, undef, undef, undef, undef, undef, undef, undef, undef, undef], defers := [] }) ?assign ?body ?done ?stop
  case assign =>
    intro L x W K hK
    gi_wp2
    exact hK
  case body =>
    rintro L pre x W ⟨⟨⟨hbx, hcw⟩, hcr⟩, hB⟩ hlt
    obtain ⟨a, c, hl, a', c', w3, hrun, hl3, hr⟩ := hbx.append x (by omega)
    obtain ⟨hc4, hbx4, hb4, hkq, hkf, hge⟩ := hr _ rfl
    have y1 := hl.1
    have y3 := hl3.1
    have z3 := hl3.2
    have H4 := hid (show KeepsFrom (w1.heap.size + 1) W (w3.setCell ⟨w1.heap.size, 0, none⟩ (.slice a' (pre.length + 1) c')) ∧ Kq (BoxFp w1.heap.size) W (w3.setCell ⟨w1.heap.size, 0, none⟩ (.slice a' (pre.length + 1) c')) ∧ ((BoxOwn w1.heap.size (w3.setCell ⟨w1.heap.size, 0, none⟩ (.slice a' (pre.length + 1) c')) (pre ++ [x]) ∧ Lies (w3.setCell ⟨w1.heap.size, 0, none⟩ (.slice a' (pre.length + 1) c')) ⟨w.heap.size, 0, none⟩ (.slice none 0 0)) ∧ Lies (w3.setCell ⟨w1.heap.size, 0, none⟩ (.slice a' (pre.length + 1) c')) ⟨w.heap.size + 1, 0, none⟩ (.bool false)) ∧ Below w.heap.size w (w3.setCell ⟨w1.heap.size, 0, none⟩ (.slice a' (pre.length + 1) c')) from
      ⟨hkf _, hkq, ⟨⟨hbx4, hcw.but hb4 (fun hk => by have := hge _ hk; simp at this; omega)⟩, hcr.but hb4 (fun hk => by have := hge _ hk; simp at this; omega)⟩, But.below hB hb4 (fun k hk => by have := hge k hk; omega)⟩)
    have HRUN := hid hrun
    have hlen : ¬ (1100 < ((pre.length + 1 : Nat) : Int)) := by omega
    clear hrun hr hbx hcw hcr hB hl hl3 hbx4 hb4 hkq hkf hge
    gi_wp2_with (gi_at_builtin; refine wpListIn_append_known rfl _ _ 28 rfl _ _ rfl rfl _ w3 HRUN.out ?_)
    exact H4.out
  case done =>
    rintro D W hD ⟨⟨⟨⟨a, c, hl, hO⟩, hcw⟩, hcr⟩, hB⟩ hK
    have y1 := hl.1
    have p1 := hcw.1
    have p2 := hcw.2
    have q1 := (hcr.other (p := ⟨w.heap.size + 1, 0, none⟩) (q := ⟨w.heap.size, 0, none⟩) (u := .slice a (tells true l n).length c) (by simp)).1
    have q2 := (hcr.other (p := ⟨w.heap.size + 1, 0, none⟩) (q := ⟨w.heap.size, 0, none⟩) (u := .slice a (tells true l n).length c) (by simp)).2
    have hcw2 := (hcw.put (u := .slice a (tells true l n).length c)).other (q := ⟨w.heap.size + 1, 0, none⟩) (u := .bool true) (by simp)
    have hcr2 := (hcr.other (q := ⟨w.heap.size, 0, none⟩) (u := .slice a (tells true l n).length c) (by simp)).put (u := .bool true)
    have hB3 := (hB.setCell (p := ⟨w.heap.size, 0, none⟩) (by simp) (.slice a (tells true l n).length c)).setCell (p := ⟨w.heap.size + 1, 0, none⟩) (by simp) (.bool true)
    have hbw : But (fun k => k < w1.heap.size) W ((W.setCell ⟨w.heap.size, 0, none⟩ (.slice a (tells true l n).length c)).setCell ⟨w.heap.size + 1, 0, none⟩ (.bool true)) := ((But.refl _ _).setCell (p := ⟨w.heap.size, 0, none⟩) (by simp; omega) _).setCell (p := ⟨w.heap.size + 1, 0, none⟩) (by simp; omega) _
    have hO3 := hO.but hbw (fun k hk hlt => by have := hO.blk k hk; omega)
    have hK' := (KeepsOthers.setCell (W.setCell ⟨w.heap.size, 0, none⟩ (.slice a (tells true l n).length c)) ⟨w.heap.size + 1, 0, none⟩ (.bool true)).same D _ ((KeepsOthers.setCell W ⟨w.heap.size, 0, none⟩ (.slice a (tells true l n).length c)).same D _ hK rfl) rfl
    have HF := hid (show Own _ w.heap.size 3 a (tells true l n).length c (ints (tells true l n)) ∧ Below w.heap.size w _ from ⟨(boxOwn_put hO3 hK').mono (by omega), below_deferred hB3 (by omega) hK'⟩)
    have r1 := (hcw2.deferred hK').1
    have r2 := (hcr2.deferred hK').1
    clear hO hO3 hB hB3 hbw hl
    gi_wp2
    refine ⟨by simp, .inl ⟨_, _, rfl, run_takeDeferred hK', ?_⟩⟩
    refine ⟨.tuple #[.slice a (tells true l n).length c, .bool true], ?_, a, _, c, rfl, HF.out⟩
    simp [results, Try.f9, go_sem, r1, r2]
  case stop =>
    rintro D c pre W hD hpre h hK
    exact h.elim
set_option maxRecDepth 100000 in
set_option maxHeartbeats 2000000 in
theorem ups_any {w : World} {g gb m : Nat} {l : Fo} (h : Ki w g gb m l) (n : Int) :
    Calls Try.prog 14 #[.pointer (some ⟨g, 0, none⟩), .int .i64 n] w fun e w' => ∃ a k c, e = .returned (.tuple #[.slice a k c, .bool true]) ∧ Own w' w.heap.size 3 a k c (ints (tells false l n)) ∧ Below w.heap.size w w' := by
  have HK := hid h
  have htl := Nat.le_trans (tells_len h.ok false n) h.big
  clear h
  refine (callsIn_wide (n := 3)).1 ?_
  refine callsIn_of_wp_marks Try.func14 rfl trivial ?_ rfl
  simp only [Try.ntmps14, List.size_toArray, List.length_cons, List.length_nil, Nat.reduceAdd, Nat.reduceSub, Array.replicate_succ, Array.replicate_zero, List.push_toArray, List.append_toArray, List.nil_append, List.cons_append]
  have hnil := eql_nil
  have hmk := hid (make_any false g n)
  change Hid (∀ w, Calls Try.prog 19 _ w _) at hmk
  gi_wp2_with (refine ⟨trivial, ?_⟩; gi_at_call 19; refine (callsIn_wide.2 (hmk.out _)).mono ?_; rintro e w1 ⟨b0, rfl, hS, hB⟩; have HS := hid hS; have HB := hid hB; clear hS hB)
  have hB1 : Below w.heap.size w w1 := (below2 _ _ _).trans (HB.out.mono (by simp; omega))
  have c0 := (lies_new w (.slice none 0 0) 28).later (below1 _ (Obj.cells #[.bool false] 4)) |>.later HB.out
  have c1 := (lies_new (w.alloc (Obj.cells #[.slice none 0 0] 28)) (.bool false) 4).later HB.out
  rw [World.size_alloc] at c1
  have hsz2 : w.heap.size + 2 ≤ w1.heap.size := by have := HB.out.size; simp at this; omega
  have hK1 := HK.out.later hB1
  have hS1 := HS.out
  have hB2 : Below w.heap.size w (w1.alloc (Obj.cells #[.slice none 0 0] 28)) := hB1.alloc hB1.size _
  have hl0 := lies_new w1 (.slice none 0 0) 28
  have hsz3 : (w1.alloc (Obj.cells #[.slice none 0 0] 28)).heap.size = w1.heap.size + 1 := by simp
  refine range_any false (by omega) rfl (hS1.later (below1 _ _)) (hK1.later (below1 _ _)) (BoxFp w1.heap.size) (boxFp_first hl0.1) (boxFp_put (by simp)) rfl
    (fun pre W => ((BoxOwn w1.heap.size W pre ∧ Lies W ⟨w.heap.size, 0, none⟩ (.slice none 0 0)) ∧ Lies W ⟨w.heap.size + 1, 0, none⟩ (.bool false)) ∧ Below w.heap.size w W)
    (fun c pre W => False)
    (OwnFrom.and (OwnFrom.and (OwnFrom.and (boxOwn_from _ _) (lies_from _ _ _)) (lies_from _ _ _)) (ownFrom_below (Nat.le_refl _) hB2.size))
    (fun c => ownFrom_pure _ _)
    ⟨⟨⟨⟨none, 0, hl0, Own.nil _ _ _⟩, c0.alloc _⟩, c1.alloc _⟩, hB2⟩
    (fun x => { tmps := #[.pointer (some ⟨g, 0, none⟩), .int .i64 n, undef, undef, .pointer (some ⟨w.heap.size, 0, none⟩), .pointer (some ⟨w.heap.size + 1, 0, none⟩), .func (.func 51) #[] #[.pointer (some ⟨b0, 0, none⟩)], .pointer (some ⟨w1.heap.size, 0, none⟩), .int .i64 x, .pointer (some ⟨g, 0, none⟩), .int .i64 n, .func (.func 51) #[] #[.pointer (some ⟨b0, 0, none⟩)], .func (.func 51) #[] #[.pointer (some ⟨b0, 0, none⟩)], .bool false, .func (.func 51) #[] #[.pointer (some ⟨b0, 0, none⟩)], .int .i64 x, undef, undef, undef, undef, undef, undef, undef, undef, undef], defers := [] }) ?assign ?body ?done ?stop
  case assign =>
    intro L x W K hK
    gi_wp2
    exact hK
  case body =>
    rintro L pre x W ⟨⟨⟨hbx, hcw⟩, hcr⟩, hB⟩ hlt
    obtain ⟨a, c, hl, a', c', w3, hrun, hl3, hr⟩ := hbx.append x (by omega)
    obtain ⟨hc4, hbx4, hb4, hkq, hkf, hge⟩ := hr _ rfl
    have y1 := hl.1
    have y3 := hl3.1
    have z3 := hl3.2
    have H4 := hid (show KeepsFrom (w1.heap.size + 1) W (w3.setCell ⟨w1.heap.size, 0, none⟩ (.slice a' (pre.length + 1) c')) ∧ Kq (BoxFp w1.heap.size) W (w3.setCell ⟨w1.heap.size, 0, none⟩ (.slice a' (pre.length + 1) c')) ∧ ((BoxOwn w1.heap.size (w3.setCell ⟨w1.heap.size, 0, none⟩ (.slice a' (pre.length + 1) c')) (pre ++ [x]) ∧ Lies (w3.setCell ⟨w1.heap.size, 0, none⟩ (.slice a' (pre.length + 1) c')) ⟨w.heap.size, 0, none⟩ (.slice none 0 0)) ∧ Lies (w3.setCell ⟨w1.heap.size, 0, none⟩ (.slice a' (pre.length + 1) c')) ⟨w.heap.size + 1, 0, none⟩ (.bool false)) ∧ Below w.heap.size w (w3.setCell ⟨w1.heap.size, 0, none⟩ (.slice a' (pre.length + 1) c')) from
      ⟨hkf _, hkq, ⟨⟨hbx4, hcw.but hb4 (fun hk => by have := hge _ hk; simp at this; omega)⟩, hcr.but hb4 (fun hk => by have := hge _ hk; simp at this; omega)⟩, But.below hB hb4 (fun k hk => by have := hge k hk; omega)⟩)
    have HRUN := hid hrun
    have hlen : ¬ (1100 < ((pre.length + 1 : Nat) : Int)) := by omega
    clear hrun hr hbx hcw hcr hB hl hl3 hbx4 hb4 hkq hkf hge
    gi_wp2_with (gi_at_builtin; refine wpListIn_append_known rfl _ _ 28 rfl _ _ rfl rfl _ w3 HRUN.out ?_)
    exact H4.out
  case done =>
    rintro D W hD ⟨⟨⟨⟨a, c, hl, hO⟩, hcw⟩, hcr⟩, hB⟩ hK
    have y1 := hl.1
    have p1 := hcw.1
    have p2 := hcw.2
    have q1 := (hcr.other (p := ⟨w.heap.size + 1, 0, none⟩) (q := ⟨w.heap.size, 0, none⟩) (u := .slice a (tells false l n).length c) (by simp)).1
    have q2 := (hcr.other (p := ⟨w.heap.size + 1, 0, none⟩) (q := ⟨w.heap.size, 0, none⟩) (u := .slice a (tells false l n).length c) (by simp)).2
    have hcw2 := (hcw.put (u := .slice a (tells false l n).length c)).other (q := ⟨w.heap.size + 1, 0, none⟩) (u := .bool true) (by simp)
    have hcr2 := (hcr.other (q := ⟨w.heap.size, 0, none⟩) (u := .slice a (tells false l n).length c) (by simp)).put (u := .bool true)
    have hB3 := (hB.setCell (p := ⟨w.heap.size, 0, none⟩) (by simp) (.slice a (tells false l n).length c)).setCell (p := ⟨w.heap.size + 1, 0, none⟩) (by simp) (.bool true)
    have hbw : But (fun k => k < w1.heap.size) W ((W.setCell ⟨w.heap.size, 0, none⟩ (.slice a (tells false l n).length c)).setCell ⟨w.heap.size + 1, 0, none⟩ (.bool true)) := ((But.refl _ _).setCell (p := ⟨w.heap.size, 0, none⟩) (by simp; omega) _).setCell (p := ⟨w.heap.size + 1, 0, none⟩) (by simp; omega) _
    have hO3 := hO.but hbw (fun k hk hlt => by have := hO.blk k hk; omega)
    have hK' := (KeepsOthers.setCell (W.setCell ⟨w.heap.size, 0, none⟩ (.slice a (tells false l n).length c)) ⟨w.heap.size + 1, 0, none⟩ (.bool true)).same D _ ((KeepsOthers.setCell W ⟨w.heap.size, 0, none⟩ (.slice a (tells false l n).length c)).same D _ hK rfl) rfl
    have HF := hid (show Own _ w.heap.size 3 a (tells false l n).length c (ints (tells false l n)) ∧ Below w.heap.size w _ from ⟨(boxOwn_put hO3 hK').mono (by omega), below_deferred hB3 (by omega) hK'⟩)
    have r1 := (hcw2.deferred hK').1
    have r2 := (hcr2.deferred hK').1
    clear hO hO3 hB hB3 hbw hl
    gi_wp2
    refine ⟨by simp, .inl ⟨_, _, rfl, run_takeDeferred hK', ?_⟩⟩
    refine ⟨.tuple #[.slice a (tells false l n).length c, .bool true], ?_, a, _, c, rfl, HF.out⟩
    simp [results, Try.f14, go_sem, r1, r2]
  case stop =>
    rintro D c pre W hD hpre h hK
    exact h.elim
end Go.Proofs.Ytpajmpfdaihehaa
