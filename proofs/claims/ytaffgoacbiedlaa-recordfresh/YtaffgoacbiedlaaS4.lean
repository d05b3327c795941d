import Derived.Test.YtaffgoacbiedlaaS3
import Derived.Test.YtaffgoacbiedlaaR8
namespace Go.Proofs.Ytaffgoacbiedlaa
open Go.RowKit
set_option linter.unusedVariables false
set_option linter.unusedSimpArgs false

theorem zero30 : ∃ Z : List Value, Z.length = 6 ∧ (∀ v ∈ Z, v.oneCell' = true) ∧ Z = z30 ∧ ∀ w : World, (zeroValue 30).run Try.prog w = .ok (.agg Z.toArray) w := by
  refine ⟨z30, rfl, rC_one _ _, rfl, fun w => ?_⟩
  obtain ⟨i, hi, hz⟩ : ∃ i, Try.prog.info? 30 = some i ∧ i.zero = some (.agg z30.toArray) := by
    have h : (Try.prog.info? 30).map (·.zero) = some (some (.agg z30.toArray)) := by kernel_rfl
    cases hq : Try.prog.info? 30 with
    | none => simp [hq] at h
    | some i => simp [hq] at h; exact ⟨i, rfl, h⟩
  simp [zeroValue, typeInfo, hi, hz]
set_option maxRecDepth 100000 in
set_option maxHeartbeats 1000000 in
theorem rcatch_idle (p q : Addr) (w : World) :
    CallsD Try.prog 26 #[.pointer (some p), .pointer (some q)] .returning w fun e u' w' => e = .returned (.tuple #[]) ∧ u' = .returning ∧ w' = w := by
  have h0 := neq_nil0
  refine callsD_of_wpS Try.func26 rfl fun c₀ cs hu => ?_
  apply wpS_seq
  apply wpS_region
  simp [wpOpsS, go_sem, recoverD, hu, Try.ntmps26, Exit.thenS]
  refine wpS_cond (t := false) (by simp [Act.eval, Array.replicate]) ?_
  simp only [Bool.false_eq_true, if_false]
  refine wpS_of_wp (wp_skip ?_)
  cases c₀
  simp_all [bodyPostS, results, Try.results26]
set_option maxRecDepth 100000 in
set_option maxHeartbeats 1000000 in
theorem rcatch_panic (p q : Nat) (x : Value) (L : List Value) (y : Value) (w : World) (hp : Bx w p L) (hl : L.length = 6) (hq : w.cell? ⟨q, 0, none⟩ = some y) (hfz : w.frozen? ⟨q, 0, none⟩ = false) (hpq : p ≠ q) :
    CallsD Try.prog 26 #[.pointer (some ⟨p, 0, none⟩), .pointer (some ⟨q, 0, none⟩)] (.panicking [{ v := .iface 22 x, recovered := false }]) w fun e u' w' => e = .returned (.tuple #[]) ∧ u' = .panicking [{ v := .iface 22 x, recovered := true }] ∧ w' = (w.setCells p 0 z30).setCell ⟨q, 0, none⟩ (.int .i64 1) := by
  have h0 := neq_nil x
  obtain ⟨Z, hZl, hZo, hZz, hz⟩ := zero30
  have hZ0 : (Z.toArray = #[]) = False := by simp; intro h; rw [h] at hZl; simp at hZl
  rw [← hZz]
  have hst := stc (n := 6) (L := Z) (hl ▸ hp.there) hZl hZo
  have hq2 : (w.setCells p 0 Z).cell? ⟨q, 0, none⟩ = some y := by
    have hk := (setCells_but (S := (· = p)) rfl Z 0 (But.refl _ w)).block q (World.block_lt_of_cell? _ _ hq) (by omega)
    rw [World.cell?_of_block (w := w) hk]; exact hq
  have hz2 : (w.setCells p 0 Z).frozen? ⟨q, 0, none⟩ = false := by rw [frozen_setCells]; exact hfz
  clear hp hl hq hfz hpq hZo hZz
  refine callsD_of_wpS Try.func26 rfl fun c₀ cs hu => ?_
  apply wpS_seq
  apply wpS_region
  simp [wpOpsS, go_sem, recoverD, hu, Try.ntmps26, Exit.thenS]
  refine wpS_cond (t := true) (by simp [Act.eval, Array.replicate]) ?_
  simp only [if_true]
  refine wpS_of_wp ?_
  go_wp2
  exact ⟨rfl, _, rfl, _, by simp [results, Try.results26], rfl, rfl, rfl⟩
set_option maxRecDepth 100000 in
set_option maxHeartbeats 4000000 in
theorem panswer_gave (op : Int) (a : Option Addr) (n cap : Nat) (R : List Nat) (w : World) (h : Row w a n cap R) (hn : n ≤ 140737488355328) (hr : rdR op R = none) :
    Calls Try.prog 11 #[.int .i64 op, .slice a n cap] w fun e w' => e = .returned (.tuple #[.agg z30.toArray, .int .i64 1]) ∧ Below w.heap.size w w' := by
  obtain ⟨Z, hZl, hZo, hZz, hz⟩ := zero30
  have hZ0 : (Z.toArray = #[]) = False := by simp; intro h; rw [h] at hZl; simp at hZl
  have hmf : ∀ (fn : Fn) (first cp : Array Value) (w : World), (Instr.makeFunc fn first cp).run Try.prog w = .ok (.func fn first cp) w := fun _ _ _ _ => rfl
  have HRS := hid (Rs.new w Z 30)
  have HRow : Hid (Row ((w.alloc (Obj.cells Z.toArray 30)).alloc (Obj.cells #[.int .i64 0] 22)) a n cap R) := h.later (below2 _ _ _)
  have HN : Hid (n ≤ 140737488355328 ∧ R.length ≤ 140737488355328) := ⟨hn, by have := h.len; omega⟩
  have HZ := hid (And.intro hZz hZo)
  clear h hn hZz hZo
  go_enter_defers Try.func11, Try.ntmps11
  go_wp2_with (first | (go_at_call 27; refine (newReader_lt a n cap R _ HRow.out HN.out.1).mono ?_; rintro e w2 ⟨g, gb, rfl, hrd, hg, hb2⟩; have HR2 := hid hrd; have HG2 := hid hg; have HRS2 := hid (HRS.out.later hb2); have HB2 := hid hb2; clear hrd hg hb2) | (go_at_call 28; refine (readReply_any op g gb R _ HR2.out HG2.out.2.2.1 HG2.out.2.2.2 HN.out.2).mono ?_; rintro e w3 ⟨(⟨c, R', L, hx, _⟩ | ⟨_, ⟨x, rfl⟩⟩), HBT⟩; (· rw [hr] at hx; cases hx)))
  have HRS3 := HRS2.out.but HBT (by have := HG2.out.1; simp at this; omega)
  refine leaves_cons (f := 26) (args := #[.pointer (some ⟨w.heap.size, 0, none⟩), .pointer (some ⟨w.heap.size + 1, 0, none⟩)]) (by simp) (by simp [go_sem]) ?_
  refine (rcatch_panic w.heap.size (w.heap.size + 1) x Z (.int .i64 0) w3 HRS3.b1 hZl HRS3.cell.1 HRS3.cell.2 (by omega)).mono ?_
  rintro e u' w4 ⟨rfl, rfl, rfl⟩
  obtain ⟨p1, p2, p3, p4⟩ := HRS3.put (M := z30) (by rw [hZl]; rfl) (.int .i64 1)
  have l1 := lv30 p1.range rfl
  have l2 := lv22 p2
  simp [Leaves, settle, results, Try.results11, asAddr, l1, l2]
  exact p4
set_option maxRecDepth 100000 in
set_option maxHeartbeats 4000000 in
theorem panswer_many (op : Int) (a : Option Addr) (n cap : Nat) (R : List Nat) (w : World) (h : Row w a n cap R) (hn : n ≤ 140737488355328) {c : Rp} {R' : List Nat} (hr : rdR op R = some (c, R')) (hR : 0 < R'.length) :
    Calls Try.prog 11 #[.int .i64 op, .slice a n cap] w fun e w' => e = .returned (.tuple #[.agg z30.toArray, .int .i64 1]) ∧ Below w.heap.size w w' := by
  obtain ⟨Z, hZl, hZo, hZz, hz⟩ := zero30
  have hZ0 : (Z.toArray = #[]) = False := by simp; intro h; rw [h] at hZl; simp at hZl
  have hmf : ∀ (fn : Fn) (first cp : Array Value) (w : World), (Instr.makeFunc fn first cp).run Try.prog w = .ok (.func fn first cp) w := fun _ _ _ _ => rfl
  have HRS := hid (Rs.new w Z 30)
  have HRow : Hid (Row ((w.alloc (Obj.cells Z.toArray 30)).alloc (Obj.cells #[.int .i64 0] 22)) a n cap R) := h.later (below2 _ _ _)
  have HN : Hid (n ≤ 140737488355328 ∧ R.length ≤ 140737488355328) := ⟨hn, by have := h.len; omega⟩
  have HZ := hid (And.intro hZz hZo)
  clear h hn hZz hZo
  have hE : Hid (endE R' = 23) := by unfold Hid endE; rw [if_pos hR]
  go_enter_defers Try.func11, Try.ntmps11
  go_wp2_with (first | (go_at_call 27; refine (newReader_lt a n cap R _ HRow.out HN.out.1).mono ?_; rintro e w2 ⟨g, gb, rfl, hrd, hg, hb2⟩; have HR2 := hid hrd; have HG2 := hid hg; have HRS2 := hid (HRS.out.later hb2); have HB2 := hid hb2; clear hrd hg hb2) | (go_at_call 28; refine (readReply_any op g gb R _ HR2.out HG2.out.2.2.1 HG2.out.2.2.2 HN.out.2).mono ?_; rintro e w3 ⟨(⟨c2, R2, L, hx, rfl, hco, hrd⟩ | ⟨hx, _⟩), HBT⟩; (rotate_left; (· rw [hr] at hx; cases hx)); rw [hr] at hx; have hx2 := Option.some.inj hx; rw [Prod.mk.injEq] at hx2; obtain ⟨rfl, rfl⟩ := hx2; have HRS3 := hid (HRS2.out.but HBT (by have := HG2.out.1; simp at this; omega)); have HCO := hid hco; have HRD := hid hrd; have hll := hco.len; obtain ⟨w4, hst0, hx4, hb4⟩ := store_new w3 (Z := Z) (t := 30) (hll.trans hZl.symm) hco.one; have HX4 := hid hx4; have HB4 := hid hb4; have HRS4 := hid (HRS3.out.later hb4); have hst := stc (n := 6) (L := Z) (hZl ▸ HRS4.out.b1.there) hZl HZ.out.2; have hcc := HRS4.out.cell2 Z; have hc1 := hcc.1; have hc2 := hcc.2; clear hcc; clear hx hco hrd HBT hx4 hb4) | (go_at_call 29; refine (end_any g gb R' _ (HRD.out.later HB4.out)).mono ?_; rintro e w9 ⟨rfl, hw9⟩; obtain rfl := hw9.symm; rw [hE.out]))
  refine leaves_cons (f := 26) (args := #[.pointer (some ⟨w.heap.size, 0, none⟩), .pointer (some ⟨w.heap.size + 1, 0, none⟩)]) (by simp) (by simp [go_sem]) ?_
  refine (rcatch_idle _ _ _).mono ?_
  rintro e u' w6 ⟨rfl, rfl, rfl⟩
  obtain ⟨p1, p2, p3, p4⟩ := HRS4.out.put (M := Z) rfl (.int .i64 1)
  have l1 := lv30 p1.range hZl
  have l2 := lv22 p2
  simp [Leaves, settle, results, Try.results11, asAddr, l1, l2]
  exact ⟨by rw [HZ.out.1], p4⟩
set_option maxRecDepth 100000 in
set_option maxHeartbeats 4000000 in
theorem panswer_unfit (op : Int) (a : Option Addr) (n cap : Nat) (R : List Nat) (w : World) (h : Row w a n cap R) (hn : n ≤ 140737488355328) {c : Rp} (hr : rdR op R = some (c, [])) (hf : rfm op c = false) :
    Calls Try.prog 11 #[.int .i64 op, .slice a n cap] w fun e w' => e = .returned (.tuple #[.agg z30.toArray, .int .i64 1]) ∧ Below w.heap.size w w' := by
  obtain ⟨Z, hZl, hZo, hZz, hz⟩ := zero30
  have hZ0 : (Z.toArray = #[]) = False := by simp; intro h; rw [h] at hZl; simp at hZl
  have hmf : ∀ (fn : Fn) (first cp : Array Value) (w : World), (Instr.makeFunc fn first cp).run Try.prog w = .ok (.func fn first cp) w := fun _ _ _ _ => rfl
  have HRS := hid (Rs.new w Z 30)
  have HRow : Hid (Row ((w.alloc (Obj.cells Z.toArray 30)).alloc (Obj.cells #[.int .i64 0] 22)) a n cap R) := h.later (below2 _ _ _)
  have HN : Hid (n ≤ 140737488355328 ∧ R.length ≤ 140737488355328) := ⟨hn, by have := h.len; omega⟩
  have HZ := hid (And.intro hZz hZo)
  clear h hn hZz hZo
  have hE : Hid (endE [] = 0) := rfl
  go_enter_defers Try.func11, Try.ntmps11
  go_wp2_with (first | (go_at_call 27; refine (newReader_lt a n cap R _ HRow.out HN.out.1).mono ?_; rintro e w2 ⟨g, gb, rfl, hrd, hg, hb2⟩; have HR2 := hid hrd; have HG2 := hid hg; have HRS2 := hid (HRS.out.later hb2); have HB2 := hid hb2; clear hrd hg hb2) | (go_at_call 28; refine (readReply_any op g gb R _ HR2.out HG2.out.2.2.1 HG2.out.2.2.2 HN.out.2).mono ?_; rintro e w3 ⟨(⟨c2, R2, L, hx, rfl, hco, hrd⟩ | ⟨hx, _⟩), HBT⟩; (rotate_left; (· rw [hr] at hx; cases hx)); rw [hr] at hx; have hx2 := Option.some.inj hx; rw [Prod.mk.injEq] at hx2; obtain ⟨rfl, rfl⟩ := hx2; have HRS3 := hid (HRS2.out.but HBT (by have := HG2.out.1; simp at this; omega)); have HCO := hid hco; have HRD := hid hrd; have hll := hco.len; obtain ⟨w4, hst0, hx4, hb4⟩ := store_new w3 (Z := Z) (t := 30) (hll.trans hZl.symm) hco.one; have HX4 := hid hx4; have HB4 := hid hb4; have HRS4 := hid (HRS3.out.later hb4); have HLD4 := hid (ld30 HX4.out.range hll); clear hx hco hrd HBT hx4 hb4) | (go_at_call 29; refine (end_any g gb [] _ (HRD.out.later HB4.out)).mono ?_; rintro e w9 ⟨rfl, hw9⟩; obtain rfl := hw9.symm; rw [hE.out]) | ((with_reducible refine ld_armg HLD4.out ?_ ?_ ?_); (· rfl); (· rfl)) | ((with_reducible refine ld_arm HLD5.out ?_ ?_); (· rfl)) | (go_at_call 24; refine (isReply_any op L c _ (HCO.out.rr.later HB4.out)).mono ?_; rintro e w5 ⟨rfl, hb5⟩; rw [hf]; have HRS5 := hid (HRS4.out.later hb5); have HB5 := hid hb5; have hst := stc (n := 6) (L := Z) (hZl ▸ HRS5.out.b1.there) hZl HZ.out.2; have hcc := HRS5.out.cell2 Z; have hc1 := hcc.1; have hc2 := hcc.2; clear hcc hb5))
  refine leaves_cons (f := 26) (args := #[.pointer (some ⟨w.heap.size, 0, none⟩), .pointer (some ⟨w.heap.size + 1, 0, none⟩)]) (by simp) (by simp [go_sem]) ?_
  refine (rcatch_idle _ _ _).mono ?_
  rintro e u' w6 ⟨rfl, rfl, rfl⟩
  obtain ⟨p1, p2, p3, p4⟩ := HRS5.out.put (M := Z) rfl (.int .i64 1)
  have l1 := lv30 p1.range hZl
  have l2 := lv22 p2
  simp [Leaves, settle, results, Try.results11, asAddr, l1, l2]
  exact ⟨by rw [HZ.out.1], p4⟩
set_option maxRecDepth 100000 in
set_option maxHeartbeats 4000000 in
theorem panswer_fit (op : Int) (a : Option Addr) (n cap : Nat) (R : List Nat) (w : World) (h : Row w a n cap R) (hn : n ≤ 140737488355328) {c : Rp} (hr : rdR op R = some (c, [])) (hf : rfm op c = true) :
    Calls Try.prog 11 #[.int .i64 op, .slice a n cap] w fun e w' => ∃ L, e = .returned (.tuple #[.agg L.toArray, .int .i64 0]) ∧ Ro w' w.heap.size L c ∧ Below w.heap.size w w' := by
  obtain ⟨Z, hZl, hZo, hZz, hz⟩ := zero30
  have hZ0 : (Z.toArray = #[]) = False := by simp; intro h; rw [h] at hZl; simp at hZl
  have hmf : ∀ (fn : Fn) (first cp : Array Value) (w : World), (Instr.makeFunc fn first cp).run Try.prog w = .ok (.func fn first cp) w := fun _ _ _ _ => rfl
  have HRS := hid (Rs.new w Z 30)
  have HRow : Hid (Row ((w.alloc (Obj.cells Z.toArray 30)).alloc (Obj.cells #[.int .i64 0] 22)) a n cap R) := h.later (below2 _ _ _)
  have HN : Hid (n ≤ 140737488355328 ∧ R.length ≤ 140737488355328) := ⟨hn, by have := h.len; omega⟩
  have HZ := hid (And.intro hZz hZo)
  clear h hn hZz hZo
  have hE : Hid (endE [] = 0) := rfl
  go_enter_defers Try.func11, Try.ntmps11
  go_wp2_with (first | (go_at_call 27; refine (newReader_lt a n cap R _ HRow.out HN.out.1).mono ?_; rintro e w2 ⟨g, gb, rfl, hrd, hg, hb2⟩; have HR2 := hid hrd; have HG2 := hid hg; have HRS2 := hid (HRS.out.later hb2); have HB2 := hid hb2; clear hrd hg hb2) | (go_at_call 28; refine (readReply_any op g gb R _ HR2.out HG2.out.2.2.1 HG2.out.2.2.2 HN.out.2).mono ?_; rintro e w3 ⟨(⟨c2, R2, L, hx, rfl, hco, hrd⟩ | ⟨hx, _⟩), HBT⟩; (rotate_left; (· rw [hr] at hx; cases hx)); rw [hr] at hx; have hx2 := Option.some.inj hx; rw [Prod.mk.injEq] at hx2; obtain ⟨rfl, rfl⟩ := hx2; have HRS3 := hid (HRS2.out.but HBT (by have := HG2.out.1; simp at this; omega)); have HCO := hid hco; have HRD := hid hrd; have hll := hco.len; obtain ⟨w4, hst0, hx4, hb4⟩ := store_new w3 (Z := Z) (t := 30) (hll.trans hZl.symm) hco.one; have HX4 := hid hx4; have HB4 := hid hb4; have HRS4 := hid (HRS3.out.later hb4); have HLD4 := hid (ld30 HX4.out.range hll); clear hx hco hrd HBT hx4 hb4) | (go_at_call 29; refine (end_any g gb [] _ (HRD.out.later HB4.out)).mono ?_; rintro e w9 ⟨rfl, hw9⟩; obtain rfl := hw9.symm; rw [hE.out]) | ((with_reducible refine ld_armg HLD4.out ?_ ?_ ?_); (· rfl); (· rfl)) | ((with_reducible refine ld_arm HLD5.out ?_ ?_); (· rfl)) | (go_at_call 24; refine (isReply_any op L c _ (HCO.out.rr.later HB4.out)).mono ?_; rintro e w5 ⟨rfl, hb5⟩; rw [hf]; have HRS5 := hid (HRS4.out.later hb5); have HB5 := hid hb5; have HLD5 := hid (ld30 (HX4.out.later hb5).range hll); have hst := stc (n := 6) (L := L) (hZl ▸ HRS5.out.b1.there) hll HCO.out.one; have hcc := HRS5.out.cell2 L; have hc1 := hcc.1; have hc2 := hcc.2; clear hcc hb5))
  refine leaves_cons (f := 26) (args := #[.pointer (some ⟨w.heap.size, 0, none⟩), .pointer (some ⟨w.heap.size + 1, 0, none⟩)]) (by simp) (by simp [go_sem]) ?_
  refine (rcatch_idle _ _ _).mono ?_
  rintro e u' w6 ⟨rfl, rfl, rfl⟩
  obtain ⟨p1, p2, p3, p4⟩ := HRS5.out.put (M := L) (by rw [hll, hZl]) (.int .i64 0)
  have l1 := lv30 p1.range hll
  have l2 := lv22 p2
  simp [Leaves, settle, results, Try.results11, asAddr, l1, l2]
  refine ⟨?_, p4⟩
  have hs2 : w.heap.size + 2 ≤ w2.heap.size := by have := HB2.out.size; simp at this; omega
  exact (((HCO.out.later HB4.out).later HB5.out).but p3 (fun k hk e => by omega)).mono (by omega)
theorem panswer_some (op : Int) (a : Option Addr) (n cap : Nat) (R : List Nat) (w : World) (h : Row w a n cap R) (hn : n ≤ 140737488355328) {c : Rp} (hr : psR op R = some c) :
    Calls Try.prog 11 #[.int .i64 op, .slice a n cap] w fun e w' => ∃ L, e = .returned (.tuple #[.agg L.toArray, .int .i64 0]) ∧ Ro w' w.heap.size L c ∧ Below w.heap.size w w' := by
  unfold psR at hr
  split at hr
  · cases hr
  · rename_i c0 R0 h0
    split at hr
    · rename_i hf
      cases hr
      obtain ⟨rfl, hf⟩ := hf
      exact panswer_fit op a n cap R w h hn h0 hf
    · cases hr
theorem panswer_none (op : Int) (a : Option Addr) (n cap : Nat) (R : List Nat) (w : World) (h : Row w a n cap R) (hn : n ≤ 140737488355328) (hr : psR op R = none) :
    Calls Try.prog 11 #[.int .i64 op, .slice a n cap] w fun e w' => e = .returned (.tuple #[.agg z30.toArray, .int .i64 1]) ∧ Below w.heap.size w w' := by
  unfold psR at hr
  split at hr
  · rename_i h0
    exact panswer_gave op a n cap R w h hn h0
  · rename_i c0 R0 h0
    split at hr
    · cases hr
    · rename_i hf
      by_cases hR : R0 = []
      · subst hR
        exact panswer_unfit op a n cap R w h hn h0 (by simpa using hf)
      · exact panswer_many op a n cap R w h hn h0 (List.length_pos_iff.2 hR)
end Go.Proofs.Ytaffgoacbiedlaa
