import Derived.Test.YtaffgoacbiedlaaR7
namespace Go.Proofs.Ytaffgoacbiedlaa
open Go.RowKit
set_option linter.unusedVariables false
set_option linter.unusedSimpArgs false

/-- The two results' boxes; what was made since. -/
structure Rs (w w' : World) (Z : List Value) : Prop where
  b1 : Bx w' w.heap.size Z
  b2 : Bx w' (w.heap.size + 1) [.int .i64 0]
  below : Below w.heap.size w w'
theorem Rs.later {w w1 w2 : World} {Z : List Value} (h : Rs w w1 Z) (hb : Below w1.heap.size w1 w2) : Rs w w2 Z := ⟨h.b1.later hb, h.b2.later hb, below_call h.below hb⟩
theorem Rs.but {w w1 w2 : World} {Z : List Value} {g : Nat} (h : Rs w w1 Z) (hb : But (· = g) w1 w2) (hg : w.heap.size + 1 < g) : Rs w w2 Z := ⟨h.b1.but hb (by omega), h.b2.but hb (by omega), But.below h.below hb (fun k hk => by omega)⟩
theorem Rs.new (w : World) (Z : List Value) (t : TypeId) : Rs w ((w.alloc (Obj.cells Z.toArray t)).alloc (Obj.cells #[.int .i64 0] 22)) Z := by
  refine ⟨(Bx.new w Z t).later (below1 _ _), ?_, below2 _ _ _⟩
  have := Bx.new (w.alloc (Obj.cells Z.toArray t)) [.int .i64 0] 22
  simp at this
  exact this
/-- The results written: both boxes. -/
theorem Rs.put {w w1 : World} {Z M : List Value} (h : Rs w w1 Z) (hl : M.length = Z.length) (v : Value) : Bx ((w1.setCells w.heap.size 0 M).setCell ⟨w.heap.size + 1, 0, none⟩ v) w.heap.size M ∧ Bx ((w1.setCells w.heap.size 0 M).setCell ⟨w.heap.size + 1, 0, none⟩ v) (w.heap.size + 1) [v] ∧ But (fun k => k = w.heap.size ∨ k = w.heap.size + 1) w1 ((w1.setCells w.heap.size 0 M).setCell ⟨w.heap.size + 1, 0, none⟩ v) ∧ Below w.heap.size w ((w1.setCells w.heap.size 0 M).setCell ⟨w.heap.size + 1, 0, none⟩ v) := by
  have hS1 : But (fun k => k = w.heap.size ∨ k = w.heap.size + 1) w1 (w1.setCells w.heap.size 0 M) := setCells_but (S := fun k => k = w.heap.size ∨ k = w.heap.size + 1) (.inl rfl) M 0 (But.refl _ _)
  have hS1' : But (· = w.heap.size) w1 (w1.setCells w.heap.size 0 M) := setCells_but (S := (· = w.heap.size)) rfl M 0 (But.refl _ _)
  have hS2 : But (· = w.heap.size + 1) (w1.setCells w.heap.size 0 M) ((w1.setCells w.heap.size 0 M).setCell ⟨w.heap.size + 1, 0, none⟩ v) := (But.refl (· = w.heap.size + 1) _).setCell (p := ⟨w.heap.size + 1, 0, none⟩) rfl v
  have hS := hS1.trans (hS2.mono (T := fun k => k = w.heap.size ∨ k = w.heap.size + 1) (fun k hk => .inr hk))
  exact ⟨(h.b1.set hl).but hS2 (by omega), (h.b2.but hS1' (by omega)).set1 0 v (by simp), hS, But.below h.below hS (fun k hk => by omega)⟩
theorem Rs.cell {w w1 : World} {Z : List Value} (h : Rs w w1 Z) : w1.cell? ⟨w.heap.size + 1, 0, none⟩ = some (.int .i64 0) ∧ w1.frozen? ⟨w.heap.size + 1, 0, none⟩ = false := by
  refine ⟨h.b2.cell 0 rfl, ?_⟩
  have := (h.b2.there 0 (by simp)).2
  simpa using this
theorem Rs.cell2 {w w1 : World} {Z : List Value} (h : Rs w w1 Z) (M : List Value) : (w1.setCells w.heap.size 0 M).cell? ⟨w.heap.size + 1, 0, none⟩ = some (.int .i64 0) ∧ (w1.setCells w.heap.size 0 M).frozen? ⟨w.heap.size + 1, 0, none⟩ = false := by
  have hS1' : But (· = w.heap.size) w1 (w1.setCells w.heap.size 0 M) := setCells_but (S := (· = w.heap.size)) rfl M 0 (But.refl _ _)
  have hx := h.b2.but hS1' (by omega)
  refine ⟨hx.cell 0 rfl, ?_⟩
  have := (hx.there 0 (by simp)).2
  simpa using this
theorem store_new (w : World) {Z L : List Value} {t : TypeId} (hl : L.length = Z.length) (h1 : ∀ v ∈ L, v.oneCell' = true) : ∃ w4, (storeCells ⟨w.heap.size, 0, none⟩ L).run Try.prog (w.alloc (Obj.cells Z.toArray t)) = .ok () w4 ∧ Bx w4 w.heap.size L ∧ Below w.heap.size w w4 := by
  have hx := Bx.new w Z t
  exact ⟨_, stc (n := Z.length) hx.there hl h1, hx.set hl, But.below (below1 _ _) (setCells_but (S := (· = w.heap.size)) rfl L 0 (But.refl _ _)) (fun k hk => by omega)⟩
theorem lv22 {w : World} {b : Nat} {v : Value} (h : Bx w b [v]) : (loadVar 22 ⟨b, 0, none⟩).run Try.prog w = .ok v w := by
  have := h.cell 0 (v := v) rfl
  simp [go_sem, this]
set_option maxRecDepth 100000 in
set_option maxHeartbeats 4000000 in
theorem parse_gave (a : Option Addr) (n cap : Nat) (R : List Nat) (w : World) (h : Row w a n cap R) (hn : n ≤ 140737488355328) (hr : rdC R = none) :
    Calls Try.prog 16 #[.slice a n cap] w fun e w' => e = .returned (.tuple #[.agg z41.toArray, .int .i64 1]) ∧ Below w.heap.size w w' := by
  obtain ⟨Z, hZl, hZo, hZz, hz⟩ := zero41
  have hZ0 : (Z.toArray = #[]) = False := by simp; intro h; rw [h] at hZl; simp at hZl
  have hmf : ∀ (fn : Fn) (first cp : Array Value) (w : World), (Instr.makeFunc fn first cp).run Try.prog w = .ok (.func fn first cp) w := fun _ _ _ _ => rfl
  have HRS := hid (Rs.new w Z 41)
  have HRow : Hid (Row ((w.alloc (Obj.cells Z.toArray 41)).alloc (Obj.cells #[.int .i64 0] 22)) a n cap R) := h.later (below2 _ _ _)
  have HN : Hid (n ≤ 140737488355328 ∧ R.length ≤ 140737488355328) := ⟨hn, by have := h.len; omega⟩
  have HZ := hid (And.intro hZz hZo)
  clear h hn hZz hZo
  go_enter_defers Try.func16, Try.ntmps16
  go_wp2_with (first | (go_at_call 27; refine (newReader_lt a n cap R _ HRow.out HN.out.1).mono ?_; rintro e w2 ⟨g, gb, rfl, hrd, hg, hb2⟩; have HR2 := hid hrd; have HG2 := hid hg; have HRS2 := hid (HRS.out.later hb2); have HB2 := hid hb2; clear hrd hg hb2) | (go_at_call 33; refine (readCall_any g gb R _ HR2.out HG2.out.2.2.1 HG2.out.2.2.2 HN.out.2).mono ?_; rintro e w3 ⟨(⟨c, R', L, hx, _⟩ | ⟨_, ⟨x, rfl⟩⟩), HBT⟩; (· rw [hr] at hx; cases hx)))
  have HRS3 := HRS2.out.but HBT (by have := HG2.out.1; simp at this; omega)
  refine leaves_cons (f := 32) (args := #[.pointer (some ⟨w.heap.size, 0, none⟩), .pointer (some ⟨w.heap.size + 1, 0, none⟩)]) (by simp) (by simp [go_sem]) ?_
  refine (catch_panic w.heap.size (w.heap.size + 1) x Z (.int .i64 0) w3 HRS3.b1 hZl HRS3.cell.1 HRS3.cell.2 (by omega)).mono ?_
  rintro e u' w4 ⟨rfl, rfl, rfl⟩
  obtain ⟨p1, p2, p3, p4⟩ := HRS3.put (M := z41) (by rw [hZl]; rfl) (.int .i64 1)
  have l1 := lv41 p1.range rfl
  have l2 := lv22 p2
  simp [Leaves, settle, results, Try.results16, asAddr, l1, l2]
  exact p4
set_option maxRecDepth 100000 in
set_option maxHeartbeats 4000000 in
theorem parse_many (a : Option Addr) (n cap : Nat) (R : List Nat) (w : World) (h : Row w a n cap R) (hn : n ≤ 140737488355328) {c : Cl} {R' : List Nat} (hr : rdC R = some (c, R')) (hR : 0 < R'.length) :
    Calls Try.prog 16 #[.slice a n cap] w fun e w' => e = .returned (.tuple #[.agg z41.toArray, .int .i64 1]) ∧ Below w.heap.size w w' := by
  obtain ⟨Z, hZl, hZo, hZz, hz⟩ := zero41
  have hZ0 : (Z.toArray = #[]) = False := by simp; intro h; rw [h] at hZl; simp at hZl
  have hmf : ∀ (fn : Fn) (first cp : Array Value) (w : World), (Instr.makeFunc fn first cp).run Try.prog w = .ok (.func fn first cp) w := fun _ _ _ _ => rfl
  have HRS := hid (Rs.new w Z 41)
  have HRow : Hid (Row ((w.alloc (Obj.cells Z.toArray 41)).alloc (Obj.cells #[.int .i64 0] 22)) a n cap R) := h.later (below2 _ _ _)
  have HN : Hid (n ≤ 140737488355328 ∧ R.length ≤ 140737488355328) := ⟨hn, by have := h.len; omega⟩
  have HZ := hid (And.intro hZz hZo)
  clear h hn hZz hZo
  have hE : Hid (endE R' = 23) := by unfold Hid endE; rw [if_pos hR]
  go_enter_defers Try.func16, Try.ntmps16
  go_wp2_with (first | (go_at_call 27; refine (newReader_lt a n cap R _ HRow.out HN.out.1).mono ?_; rintro e w2 ⟨g, gb, rfl, hrd, hg, hb2⟩; have HR2 := hid hrd; have HG2 := hid hg; have HRS2 := hid (HRS.out.later hb2); have HB2 := hid hb2; clear hrd hg hb2) | (go_at_call 33; refine (readCall_any g gb R _ HR2.out HG2.out.2.2.1 HG2.out.2.2.2 HN.out.2).mono ?_; rintro e w3 ⟨(⟨c2, R2, L, hx, rfl, hco, hrd⟩ | ⟨hx, _⟩), HBT⟩; (rotate_left; (· rw [hr] at hx; cases hx)); rw [hr] at hx; have hx2 := Option.some.inj hx; rw [Prod.mk.injEq] at hx2; obtain ⟨rfl, rfl⟩ := hx2; have HRS3 := hid (HRS2.out.but HBT (by have := HG2.out.1; simp at this; omega)); have HCO := hid hco; have HRD := hid hrd; have hll := hco.len; obtain ⟨w4, hst0, hx4, hb4⟩ := store_new w3 (Z := Z) (t := 41) (hll.trans hZl.symm) hco.one; have HX4 := hid hx4; have HB4 := hid hb4; have HRS4 := hid (HRS3.out.later hb4); have hst := stc (n := 13) (L := Z) (hZl ▸ HRS4.out.b1.there) hZl HZ.out.2; have hcc := HRS4.out.cell2 Z; have hc1 := hcc.1; have hc2 := hcc.2; clear hcc; clear hx hco hrd HBT hx4 hb4) | (go_at_call 29; refine (end_any g gb R' _ (HRD.out.later HB4.out)).mono ?_; rintro e w9 ⟨rfl, hw9⟩; obtain rfl := hw9.symm; rw [hE.out]))
  refine leaves_cons (f := 32) (args := #[.pointer (some ⟨w.heap.size, 0, none⟩), .pointer (some ⟨w.heap.size + 1, 0, none⟩)]) (by simp) (by simp [go_sem]) ?_
  refine (catch_idle _ _ _).mono ?_
  rintro e u' w6 ⟨rfl, rfl, rfl⟩
  obtain ⟨p1, p2, p3, p4⟩ := HRS4.out.put (M := Z) rfl (.int .i64 1)
  have l1 := lv41 p1.range hZl
  have l2 := lv22 p2
  simp [Leaves, settle, results, Try.results16, asAddr, l1, l2]
  exact ⟨by rw [HZ.out.1], p4⟩
set_option maxRecDepth 100000 in
set_option maxHeartbeats 4000000 in
theorem parse_unfit (a : Option Addr) (n cap : Nat) (R : List Nat) (w : World) (h : Row w a n cap R) (hn : n ≤ 140737488355328) {c : Cl} (hr : rdC R = some (c, [])) (hf : fm c = false) :
    Calls Try.prog 16 #[.slice a n cap] w fun e w' => e = .returned (.tuple #[.agg z41.toArray, .int .i64 1]) ∧ Below w.heap.size w w' := by
  obtain ⟨Z, hZl, hZo, hZz, hz⟩ := zero41
  have hZ0 : (Z.toArray = #[]) = False := by simp; intro h; rw [h] at hZl; simp at hZl
  have hmf : ∀ (fn : Fn) (first cp : Array Value) (w : World), (Instr.makeFunc fn first cp).run Try.prog w = .ok (.func fn first cp) w := fun _ _ _ _ => rfl
  have HRS := hid (Rs.new w Z 41)
  have HRow : Hid (Row ((w.alloc (Obj.cells Z.toArray 41)).alloc (Obj.cells #[.int .i64 0] 22)) a n cap R) := h.later (below2 _ _ _)
  have HN : Hid (n ≤ 140737488355328 ∧ R.length ≤ 140737488355328) := ⟨hn, by have := h.len; omega⟩
  have HZ := hid (And.intro hZz hZo)
  clear h hn hZz hZo
  have hE : Hid (endE [] = 0) := rfl
  go_enter_defers Try.func16, Try.ntmps16
  go_wp2_with (first | (go_at_call 27; refine (newReader_lt a n cap R _ HRow.out HN.out.1).mono ?_; rintro e w2 ⟨g, gb, rfl, hrd, hg, hb2⟩; have HR2 := hid hrd; have HG2 := hid hg; have HRS2 := hid (HRS.out.later hb2); have HB2 := hid hb2; clear hrd hg hb2) | (go_at_call 33; refine (readCall_any g gb R _ HR2.out HG2.out.2.2.1 HG2.out.2.2.2 HN.out.2).mono ?_; rintro e w3 ⟨(⟨c2, R2, L, hx, rfl, hco, hrd⟩ | ⟨hx, _⟩), HBT⟩; (rotate_left; (· rw [hr] at hx; cases hx)); rw [hr] at hx; have hx2 := Option.some.inj hx; rw [Prod.mk.injEq] at hx2; obtain ⟨rfl, rfl⟩ := hx2; have HRS3 := hid (HRS2.out.but HBT (by have := HG2.out.1; simp at this; omega)); have HCO := hid hco; have HRD := hid hrd; have hll := hco.len; obtain ⟨w4, hst0, hx4, hb4⟩ := store_new w3 (Z := Z) (t := 41) (hll.trans hZl.symm) hco.one; have HX4 := hid hx4; have HB4 := hid hb4; have HRS4 := hid (HRS3.out.later hb4); have HLD4 := hid (ld41 HX4.out.range hll); clear hx hco hrd HBT hx4 hb4) | (go_at_call 29; refine (end_any g gb [] _ (HRD.out.later HB4.out)).mono ?_; rintro e w9 ⟨rfl, hw9⟩; obtain rfl := hw9.symm; rw [hE.out]) | ((with_reducible refine ld_armg HLD4.out ?_ ?_ ?_); (· rfl); (· rfl)) | ((with_reducible refine ld_arm HLD5.out ?_ ?_); (· rfl)) | (go_at_call 30; refine (isCall_any L c _ (HCO.out.cc.later HB4.out)).mono ?_; rintro e w5 ⟨rfl, hb5⟩; rw [hf]; have HRS5 := hid (HRS4.out.later hb5); have HB5 := hid hb5; have hst := stc (n := 13) (L := Z) (hZl ▸ HRS5.out.b1.there) hZl HZ.out.2; have hcc := HRS5.out.cell2 Z; have hc1 := hcc.1; have hc2 := hcc.2; clear hcc hb5))
  refine leaves_cons (f := 32) (args := #[.pointer (some ⟨w.heap.size, 0, none⟩), .pointer (some ⟨w.heap.size + 1, 0, none⟩)]) (by simp) (by simp [go_sem]) ?_
  refine (catch_idle _ _ _).mono ?_
  rintro e u' w6 ⟨rfl, rfl, rfl⟩
  obtain ⟨p1, p2, p3, p4⟩ := HRS5.out.put (M := Z) rfl (.int .i64 1)
  have l1 := lv41 p1.range hZl
  have l2 := lv22 p2
  simp [Leaves, settle, results, Try.results16, asAddr, l1, l2]
  exact ⟨by rw [HZ.out.1], p4⟩
set_option maxRecDepth 100000 in
set_option maxHeartbeats 4000000 in
theorem parse_fit (a : Option Addr) (n cap : Nat) (R : List Nat) (w : World) (h : Row w a n cap R) (hn : n ≤ 140737488355328) {c : Cl} (hr : rdC R = some (c, [])) (hf : fm c = true) :
    Calls Try.prog 16 #[.slice a n cap] w fun e w' => ∃ L, e = .returned (.tuple #[.agg L.toArray, .int .i64 0]) ∧ Co w' w.heap.size L c ∧ Below w.heap.size w w' := by
  obtain ⟨Z, hZl, hZo, hZz, hz⟩ := zero41
  have hZ0 : (Z.toArray = #[]) = False := by simp; intro h; rw [h] at hZl; simp at hZl
  have hmf : ∀ (fn : Fn) (first cp : Array Value) (w : World), (Instr.makeFunc fn first cp).run Try.prog w = .ok (.func fn first cp) w := fun _ _ _ _ => rfl
  have HRS := hid (Rs.new w Z 41)
  have HRow : Hid (Row ((w.alloc (Obj.cells Z.toArray 41)).alloc (Obj.cells #[.int .i64 0] 22)) a n cap R) := h.later (below2 _ _ _)
  have HN : Hid (n ≤ 140737488355328 ∧ R.length ≤ 140737488355328) := ⟨hn, by have := h.len; omega⟩
  have HZ := hid (And.intro hZz hZo)
  clear h hn hZz hZo
  have hE : Hid (endE [] = 0) := rfl
  go_enter_defers Try.func16, Try.ntmps16
  go_wp2_with (first | (go_at_call 27; refine (newReader_lt a n cap R _ HRow.out HN.out.1).mono ?_; rintro e w2 ⟨g, gb, rfl, hrd, hg, hb2⟩; have HR2 := hid hrd; have HG2 := hid hg; have HRS2 := hid (HRS.out.later hb2); have HB2 := hid hb2; clear hrd hg hb2) | (go_at_call 33; refine (readCall_any g gb R _ HR2.out HG2.out.2.2.1 HG2.out.2.2.2 HN.out.2).mono ?_; rintro e w3 ⟨(⟨c2, R2, L, hx, rfl, hco, hrd⟩ | ⟨hx, _⟩), HBT⟩; (rotate_left; (· rw [hr] at hx; cases hx)); rw [hr] at hx; have hx2 := Option.some.inj hx; rw [Prod.mk.injEq] at hx2; obtain ⟨rfl, rfl⟩ := hx2; have HRS3 := hid (HRS2.out.but HBT (by have := HG2.out.1; simp at this; omega)); have HCO := hid hco; have HRD := hid hrd; have hll := hco.len; obtain ⟨w4, hst0, hx4, hb4⟩ := store_new w3 (Z := Z) (t := 41) (hll.trans hZl.symm) hco.one; have HX4 := hid hx4; have HB4 := hid hb4; have HRS4 := hid (HRS3.out.later hb4); have HLD4 := hid (ld41 HX4.out.range hll); clear hx hco hrd HBT hx4 hb4) | (go_at_call 29; refine (end_any g gb [] _ (HRD.out.later HB4.out)).mono ?_; rintro e w9 ⟨rfl, hw9⟩; obtain rfl := hw9.symm; rw [hE.out]) | ((with_reducible refine ld_armg HLD4.out ?_ ?_ ?_); (· rfl); (· rfl)) | ((with_reducible refine ld_arm HLD5.out ?_ ?_); (· rfl)) | (go_at_call 30; refine (isCall_any L c _ (HCO.out.cc.later HB4.out)).mono ?_; rintro e w5 ⟨rfl, hb5⟩; rw [hf]; have HRS5 := hid (HRS4.out.later hb5); have HB5 := hid hb5; have HLD5 := hid (ld41 (HX4.out.later hb5).range hll); have hst := stc (n := 13) (L := L) (hZl ▸ HRS5.out.b1.there) hll HCO.out.one; have hcc := HRS5.out.cell2 L; have hc1 := hcc.1; have hc2 := hcc.2; clear hcc hb5))
  refine leaves_cons (f := 32) (args := #[.pointer (some ⟨w.heap.size, 0, none⟩), .pointer (some ⟨w.heap.size + 1, 0, none⟩)]) (by simp) (by simp [go_sem]) ?_
  refine (catch_idle _ _ _).mono ?_
  rintro e u' w6 ⟨rfl, rfl, rfl⟩
  obtain ⟨p1, p2, p3, p4⟩ := HRS5.out.put (M := L) (by rw [hll, hZl]) (.int .i64 0)
  have l1 := lv41 p1.range hll
  have l2 := lv22 p2
  simp [Leaves, settle, results, Try.results16, asAddr, l1, l2]
  refine ⟨?_, p4⟩
  have hs2 : w.heap.size + 2 ≤ w2.heap.size := by have := HB2.out.size; simp at this; omega
  exact (((HCO.out.later HB4.out).later HB5.out).but p3 (fun k hk e => by omega)).mono (by omega)
theorem parse_some (a : Option Addr) (n cap : Nat) (R : List Nat) (w : World) (h : Row w a n cap R) (hn : n ≤ 140737488355328) {c : Cl} (hr : psC R = some c) :
    Calls Try.prog 16 #[.slice a n cap] w fun e w' => ∃ L, e = .returned (.tuple #[.agg L.toArray, .int .i64 0]) ∧ Co w' w.heap.size L c ∧ Below w.heap.size w w' := by
  unfold psC at hr
  split at hr
  · cases hr
  · rename_i c0 R0 h0
    split at hr
    · rename_i hf
      cases hr
      obtain ⟨rfl, hf⟩ := hf
      exact parse_fit a n cap R w h hn h0 hf
    · cases hr
theorem parse_none (a : Option Addr) (n cap : Nat) (R : List Nat) (w : World) (h : Row w a n cap R) (hn : n ≤ 140737488355328) (hr : psC R = none) :
    Calls Try.prog 16 #[.slice a n cap] w fun e w' => e = .returned (.tuple #[.agg z41.toArray, .int .i64 1]) ∧ Below w.heap.size w w' := by
  unfold psC at hr
  split at hr
  · rename_i h0
    exact parse_gave a n cap R w h hn h0
  · rename_i c0 R0 h0
    split at hr
    · cases hr
    · rename_i hf
      by_cases hR : R0 = []
      · subst hR
        exact parse_unfit a n cap R w h hn h0 (by simpa using hf)
      · exact parse_many a n cap R w h hn h0 (List.length_pos_iff.2 hR)
end Go.Proofs.Ytaffgoacbiedlaa
