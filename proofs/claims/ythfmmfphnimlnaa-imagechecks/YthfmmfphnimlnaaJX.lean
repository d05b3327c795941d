import Derived.Test.YthfmmfphnimlnaaIS
namespace Go.Proofs.Ythfmmfphnimlnaa
open Go.RowKit
set_option linter.unusedVariables false
set_option linter.unusedSimpArgs false
/-- The reader of an image in memory. -/
structure Ry (w : World) (r g gb : Nat) (q : List Nat × Bool) : Prop where
  c0 : w.cell? ⟨r, 0, none⟩ = some (.pointer (some ⟨g, 0, none⟩))
  c1 : Lies w ⟨r, 1, none⟩ (.bool q.2)
  rd : Rd w g gb q.1
  n1 : r ≠ g
  n2 : q.1 ≠ [] → r ≠ gb
theorem Rd.but2 {S : Nat → Prop} {w w' : World} {g gb : Nat} {R : List Nat} (hb : But S w w') (h : Rd w g gb R) (h1 : ¬ S g) (h2 : R ≠ [] → ¬ S gb) : Rd w' g gb R := by
  by_cases hR : R = []
  · subst hR
    obtain ⟨o, cap, hl, hc, hcell⟩ := h.ex
    exact ⟨⟨o, cap, hl.but hb h1, hc, fun i hi => absurd hi (by simp)⟩, h.ne, h.small⟩
  · exact h.but hb h1 (h2 hR)
theorem Rd.gb {w : World} {g gb : Nat} {R : List Nat} (h : Rd w g gb R) (hR : R ≠ []) : gb < w.heap.size := by
  obtain ⟨o, cap, hl, hc, hcell⟩ := h.ex
  exact World.block_lt_of_cell? _ _ (hcell 0 (List.length_pos_iff.2 hR))
theorem Rd.gl {w : World} {g gb : Nat} {R : List Nat} (h : Rd w g gb R) : g < w.heap.size := by
  obtain ⟨o, cap, hl, hc, hcell⟩ := h.ex
  exact World.block_lt_of_cell? _ _ hl.1
abbrev RN (r g : Nat) (k : Nat) : Prop := k = g ∨ k = r
theorem Ry.but {S : Nat → Prop} {w w' : World} {r g gb : Nat} {q : List Nat × Bool} (h : Ry w r g gb q) (hb : But S w w') (h1 : ¬ S r) (h2 : ¬ S g) (h3 : q.1 ≠ [] → ¬ S gb) : Ry w' r g gb q :=
  ⟨cell_but hb h.c0 h1, h.c1.but hb h1, h.rd.but2 hb h2 h3, h.n1, h.n2⟩
theorem Ry.later {w w' : World} {r g gb : Nat} {q : List Nat × Bool} (h : Ry w r g gb q) (hb : Below w.heap.size w w') : Ry w' r g gb q := h.but (S := fun _ => False) (But.of hb) (fun h => h) (fun h => h) (fun _ h => h)
theorem Ry.read {w w' : World} {r g gb : Nat} {q : List Nat × Bool} {R' : List Nat} (h : Ry w r g gb q) (hb : But (· = g) w w') (hr : Rd w' g gb R') (hn : R' ≠ [] → q.1 ≠ []) : Ry w' r g gb (R', q.2) :=
  ⟨cell_but hb h.c0 h.n1, h.c1.but hb h.n1, hr, h.n1, fun hR => h.n2 (hn hR)⟩
theorem drop_ne {R : List Nat} {n : Nat} (h : R.drop n ≠ []) : R ≠ [] := by
  intro e; subst e; simp at h
theorem Ry.mark {w : World} {r g gb : Nat} {q : List Nat × Bool} (h : Ry w r g gb q) (b : Bool) : Ry (w.setCell ⟨r, 1, none⟩ (.bool b)) r g gb (q.1, b) := by
  refine ⟨?_, h.c1.put, h.rd.but2 (S := fun k => k = r) ((But.refl (fun k => k = r) w).setCell rfl _) (fun e => h.n1 e.symm) (fun hR e => h.n2 hR e.symm), h.n1, h.n2⟩
  rw [World.cell?_setCell_other _ _ _ _ (by simp)]
  exact h.c0
theorem RN.refl_but (r g : Nat) (w : World) : But (RN r g) w w := But.refl _ _
set_option maxRecDepth 100000 in
set_option maxHeartbeats 1000000 in
theorem note_any (r g gb : Nat) (q : List Nat × Bool) (e : Int) (w : World) (h : Ry w r g gb q) :
    Calls Try.prog 82 #[.pointer (some ⟨r, 0, none⟩), .int .i64 e] w fun x w' => x = .returned (.tuple #[]) ∧ Ry w' r g gb (q.1, q.2 || decide (e ≠ 0)) ∧ But (RN r g) w w' := by
  obtain ⟨c1, c2⟩ := h.c1
  obtain ⟨R, f⟩ := q
  simp only at c1 ⊢
  have HB : Hid (∀ b, But (RN r g) w (w.setCell ⟨r, 1, none⟩ (.bool b))) := fun b => (But.refl _ _).setCell (.inr rfl) _
  have HM := hid (fun b => h.mark b)
  simp only at HM
  clear h
  cases f with
  | true =>
    go_enter Try.func82, Try.ntmps82
    go_wp2
    exact bodyPost_end (v := .tuple #[]) (by simp [results, Try.results82, go_sem]) rfl ⟨rfl, by simpa using HM.out true, HB.out true⟩
  | false =>
    by_cases he : e = 0
    · subst he
      go_enter Try.func82, Try.ntmps82
      go_wp2
      exact bodyPost_end (v := .tuple #[]) (by simp [results, Try.results82, go_sem]) rfl ⟨rfl, by simpa using HM.out false, HB.out false⟩
    · have h1 : (e != 0) = true := by simpa using he
      have h2 : decide (e ≠ 0) = true := by simpa using he
      rw [h2]
      clear h2 he
      go_enter Try.func82, Try.ntmps82
      go_wp2
      exact bodyPost_end (v := .tuple #[]) (by simp [results, Try.results82, go_sem]) rfl ⟨rfl, by simpa using HM.out true, HB.out true⟩
def nmV (q : List Nat × Bool) (k m : Int) : Nat := intV q.1 k m
def nmS (q : List Nat × Bool) (k m : Int) : List Nat × Bool := (q.1.drop (intN q.1 k m), q.2 || decide (intE q.1 k m ≠ 0))
set_option maxRecDepth 100000 in
set_option maxHeartbeats 1000000 in
theorem number_any (r g gb : Nat) (q : List Nat × Bool) (k m : Int) (w : World) (h : Ry w r g gb q) (hm : m < 9223372036854775808) :
    Calls Try.prog 58 #[.pointer (some ⟨r, 0, none⟩), .int .i64 k, .int .i64 m] w fun x w' => x = .returned (.int .i64 (nmV q k m : Int)) ∧ Ry w' r g gb (nmS q k m) ∧ But (RN r g) w w' := by
  have c0 := h.c0
  have HC := hid (int_any g gb q.1 k m w h.rd hm)
  have HN := hid note_any
  have HH := hid h
  unfold nmV nmS
  generalize intV q.1 k m = v at HC ⊢
  generalize intN q.1 k m = n at HC ⊢
  generalize intE q.1 k m = e at HC ⊢
  clear h hm
  go_enter Try.func58, Try.ntmps58
  go_wp2_with (first | (go_at_call 83; refine HC.out.mono ?_; rintro x w2 ⟨rfl, hr2, hb2⟩; have HR2 := hid (HH.out.read hb2 hr2 drop_ne); have HB2 := hid (hb2.mono (T := RN r g) (fun k hk => .inl hk)); clear hr2 hb2) | (go_at_call 82; refine (HN.out r g gb _ e _ HR2.out).mono ?_; rintro x w3 ⟨rfl, hr3, hb3⟩; have HR3 := hid hr3; have HB3 := hid (HB2.out.trans hb3); clear hr3 hb3))
  go_ret
  exact ⟨rfl, HR3.out, HB3.out⟩
theorem two_any (r g gb : Nat) (q : List Nat × Bool) (w : World) (h : Ry w r g gb q) :
    Calls Try.prog 57 #[.pointer (some ⟨r, 0, none⟩)] w fun x w' => x = .returned (.int .i64 (nmV q 2 65535 : Int)) ∧ Ry w' r g gb (nmS q 2 65535) ∧ But (RN r g) w w' := by
  have HC := hid (number_any r g gb q 2 65535 w h (by omega))
  clear h
  go_enter Try.func57, Try.ntmps57
  go_wp2_with (first | (go_at_call 58; refine HC.out.mono ?_; rintro x w2 ⟨rfl, hr2, hb2⟩; have HR2 := hid hr2; have HB2 := hid hb2; clear hr2 hb2))
  go_ret
  exact ⟨rfl, HR2.out, HB2.out⟩
def paV (q : List Nat × Bool) : Int := if nmV q 2 65535 = 65535 then -1 else (nmV q 2 65535 : Int)
theorem parent_any (r g gb : Nat) (q : List Nat × Bool) (w : World) (h : Ry w r g gb q) :
    Calls Try.prog 85 #[.pointer (some ⟨r, 0, none⟩)] w fun x w' => x = .returned (.int .i64 (paV q)) ∧ Ry w' r g gb (nmS q 2 65535) ∧ But (RN r g) w w' := by
  have HC := hid (two_any r g gb q w h)
  unfold paV
  generalize nmV q 2 65535 = v at HC ⊢
  clear h
  by_cases hv : v = 65535
  · subst hv
    rw [if_pos rfl]
    go_enter Try.func85, Try.ntmps85
    go_wp2_with (first | (go_at_call 57; refine HC.out.mono ?_; rintro x w2 ⟨rfl, hr2, hb2⟩; have HR2 := hid hr2; have HB2 := hid hb2; clear hr2 hb2))
    go_ret
    exact ⟨rfl, HR2.out, HB2.out⟩
  · rw [if_neg hv]
    have e1 : ((v : Int) == 65535) = false := by simp; omega
    clear hv
    go_enter Try.func85, Try.ntmps85
    go_wp2_with (first | (go_at_call 57; refine HC.out.mono ?_; rintro x w2 ⟨rfl, hr2, hb2⟩; have HR2 := hid hr2; have HB2 := hid hb2; clear hr2 hb2))
    go_ret
    exact ⟨rfl, HR2.out, HB2.out⟩
def rwN (q : List Nat × Bool) (k : Int) : Nat := rowN q.1 k
def rwS (q : List Nat × Bool) (k : Int) : List Nat × Bool := (q.1.drop (rowN q.1 k), q.2 || decide (rowE q.1 k ≠ 0))
set_option maxRecDepth 100000 in
set_option maxHeartbeats 1000000 in
theorem rowr_any (r g gb : Nat) (q : List Nat × Bool) (k : Int) (w : World) (h : Ry w r g gb q) (hr : q.1.length ≤ 140737488355328) :
    Calls Try.prog 56 #[.pointer (some ⟨r, 0, none⟩), .int .i64 k] w fun x w' => ∃ a m c, x = .returned (.slice a m c) ∧ Own w' w.heap.size a m c (q.1.take (rwN q k)) ∧ Ry w' r g gb (rwS q k) ∧ But (RN r g) w w' := by
  have c0 := h.c0
  have HC := hid (row_any g gb q.1 k w h.rd hr)
  have HN := hid note_any
  have HH := hid h
  have HS : Hid (g < w.heap.size ∧ r < w.heap.size) := ⟨h.rd.gl, World.block_lt_of_cell? _ _ h.c0⟩
  unfold rwN rwS
  generalize rowN q.1 k = n at HC ⊢
  generalize rowE q.1 k = e at HC ⊢
  clear h hr
  go_enter Try.func56, Try.ntmps56
  go_wp2_with (first | (go_at_call 81; refine HC.out.mono ?_; rintro x w2 ⟨a2, m2, c2, rfl, ho2, hr2, hb2⟩; have HO2 := hid ho2; have HR2 := hid (HH.out.read hb2 hr2 drop_ne); have HB2 := hid (hb2.mono (T := RN r g) (fun k hk => .inl hk)); clear ho2 hr2 hb2) | (go_at_call 82; refine (HN.out r g gb _ e _ HR2.out).mono ?_; rintro x w3 ⟨rfl, hr3, hb3⟩; have HO3 := hid (HO2.out.but hb3 (fun k hk hk2 => by have := HS.out; rcases hk2 with rfl | rfl <;> omega)); have HR3 := hid hr3; have HB3 := hid (HB2.out.trans hb3); clear hr3 hb3))
  go_ret
  exact ⟨a2, m2, c2, rfl, HO3.out, HR3.out, HB3.out⟩
def cpV (q : List Nat × Bool) : Cp := ⟨(capObj q.1 : Int), capHi q.1, capLo q.1⟩
def cpS (q : List Nat × Bool) : List Nat × Bool := (q.1.drop (capN q.1), q.2 || decide (capE q.1 ≠ 0))
set_option maxRecDepth 100000 in
set_option maxHeartbeats 1000000 in
theorem capr_any (r g gb : Nat) (q : List Nat × Bool) (w : World) (h : Ry w r g gb q) :
    Calls Try.prog 84 #[.pointer (some ⟨r, 0, none⟩)] w fun x w' => x = .returned (.agg #[.int .i64 (cpV q).o, .int .u64 ((cpV q).h : Int), .int .u64 ((cpV q).l : Int)]) ∧ Ry w' r g gb (cpS q) ∧ But (RN r g) w w' := by
  obtain ⟨W, hW⟩ : ∃ W, W = w.alloc (Obj.cells #[.int .i64 0, .int .u64 0, .int .u64 0] 65) := ⟨_, rfl⟩
  have hB : Below w.heap.size w W := by rw [hW]; exact below1 _ _
  have HW := hid hW
  have hWy := h.later hB
  have HC := hid (cap_any g gb q.1 W hWy.rd)
  have HN := hid note_any
  have HH := hid hWy
  have c0 := hWy.c0
  have HB := hid hB
  have HS : Hid (g < w.heap.size ∧ r < w.heap.size ∧ (q.1 ≠ [] → gb < w.heap.size)) := ⟨h.rd.gl, World.block_lt_of_cell? _ _ h.c0, fun hR => h.rd.gb hR⟩
  unfold cpV cpS
  simp only
  generalize capObj q.1 = vo at HC ⊢
  generalize capHi q.1 = vh at HC ⊢
  generalize capLo q.1 = vl at HC ⊢
  generalize capN q.1 = n at HC ⊢
  generalize capE q.1 = e at HC ⊢
  clear h hW hWy hB
  go_enter Try.func84, Try.ntmps84
  go_upto_region 1 with fail
  rw [← HW.out]
  go_upto_region 2 with (first | (go_at_call 96; refine HC.out.mono ?_; rintro x w2 ⟨rfl, hr2, hb2⟩; have HR2 := hid (HH.out.read hb2 hr2 drop_ne); have HB2 := hid (hb2.mono (T := RN r g) (fun k hk => .inl hk)); clear hr2 hb2))
  obtain ⟨V, hV⟩ : ∃ V, V = w2.alloc (Obj.cells #[.int .i64 (vo : Int), .int .u64 (vh : Int), .int .u64 (vl : Int)] 65) := ⟨_, rfl⟩
  have HBV : Hid (Below w2.heap.size w2 V) := by rw [hV]; exact below1 _ _
  have HX : Hid (V.rangeAt w2.heap.size 0 [.int .i64 (vo : Int), .int .u64 (vh : Int), .int .u64 (vl : Int)]) := by rw [hV]; exact rangeAt_new w2 _ _
  rw [← hV]
  clear hV
  have HZ0 : Hid (∀ i v, [Value.int .i64 0, .int .u64 0, .int .u64 0][i]? = some v → Lies W ⟨w.heap.size, i, none⟩ v) := by
    intro i v hv
    rw [HW.out]
    exact _root_.Go.Proofs.Ythfmmfphnimlnaa.W.lies_new (by simpa using hv)
  have hWs : W.heap.size = w.heap.size + 1 := by rw [HW.out]; simp
  have HSz : Hid (w.heap.size < w2.heap.size) := by unfold Hid; have h1 := HB2.out.size; omega
  clear hWs
  have hcr := (HR2.out.later HBV.out)
  have HRV := hid hcr
  clear hcr c0
  go_upto_region 3 with (first | (go_at_call 82; refine (HN.out r g gb _ e _ HRV.out).mono ?_; rintro x w3 ⟨rfl, hr3, hb3⟩; have HR3 := hid hr3; have HB3 := hid hb3; clear hr3 hb3))
  have hnb : ∀ k, RN r g k → k ≠ w.heap.size ∧ k ≠ w2.heap.size := fun k hk => by have := HS.out; have := HSz.out; rcases hk with rfl | rfl <;> omega
  have hb4 : But (RN r g) W w3 := (HB2.out.call HBV.out).trans HB3.out
  obtain ⟨z0, f0⟩ := (HZ0.out 0 _ rfl).but hb4 (fun hk => (hnb _ hk).1 rfl)
  obtain ⟨z1, f1⟩ := (HZ0.out 1 _ rfl).but hb4 (fun hk => (hnb _ hk).1 rfl)
  obtain ⟨z2, f2⟩ := (HZ0.out 2 _ rfl).but hb4 (fun hk => (hnb _ hk).1 rfl)
  have x0 := cell_but HB3.out (HX.out 0 _ rfl) (fun hk => (hnb _ hk).2 rfl)
  have x1 := cell_but HB3.out (HX.out 1 _ rfl) (fun hk => (hnb _ hk).2 rfl)
  have x2 := cell_but HB3.out (HX.out 2 _ rfl) (fun hk => (hnb _ hk).2 rfl)
  have HB4 := hid hb4
  clear hb4 hnb
  simp only [Nat.zero_add] at x0 x1 x2
  go_wp2
  have hbS : But (fun k => k = w.heap.size) w3 (((w3.setCell ⟨w.heap.size, 0, none⟩ (.int .i64 (vo : Int))).setCell ⟨w.heap.size, 1, none⟩ (.int .u64 (vh : Int))).setCell ⟨w.heap.size, 2, none⟩ (.int .u64 (vl : Int))) := (((But.refl (fun k => k = w.heap.size) w3).setCell rfl _).setCell rfl _).setCell rfl _
  exact bodyPost_ret (v := .agg #[.int .i64 (vo : Int), .int .u64 (vh : Int), .int .u64 (vl : Int)]) (by simp [results, Try.results84, go_sem, z0, z1, z2]) rfl ⟨rfl, HR3.out.but hbS (fun e => by have := HS.out.2.1; omega) (fun e => by have := HS.out.1; omega) (fun hR e => by have := HS.out.2.2 (drop_ne hR); omega), ((But.of HB.out).trans HB4.out).comp hbS (fun i hi => .inr (by rw [hi]; exact Nat.le_refl _))⟩
set_option maxRecDepth 100000 in
set_option maxHeartbeats 1000000 in
theorem ended_any (r g gb : Nat) (q : List Nat × Bool) (w : World) (h : Ry w r g gb q) :
    Calls Try.prog 33 #[.pointer (some ⟨r, 0, none⟩)] w fun x w' => x = .returned (.bool (!q.2 && decide (q.1 = []))) ∧ w' = w := by
  have c0 := h.c0
  have c1 := h.c1.1
  have HE := hid (end_any g gb q.1 w h.rd)
  obtain ⟨R, f⟩ := q
  simp only at c1 HE ⊢
  clear h
  cases f with
  | true =>
    go_enter Try.func33, Try.ntmps33
    go_wp2
    go_ret
    exact ⟨rfl, rfl⟩
  | false =>
    have he : Hid (((endE R) == 0) = decide (R = [])) := by
      unfold Hid endE
      cases R with
      | nil => rfl
      | cons x R => simp
    generalize endE R = e at HE he
    go_enter Try.func33, Try.ntmps33
    go_wp2_with (first | (go_at_call 62; refine HE.out.mono ?_; rintro x w2 ⟨rfl, rfl⟩))
    go_ret
    exact ⟨ret_bool (by rw [he.out]; simp), rfl⟩
def hdS (q : List Nat × Bool) : List Nat × Bool := ((rwS q 8).1, (rwS q 8).2 || !decide (q.1.take (rwN q 8) = mkB))
set_option maxRecDepth 100000 in
set_option maxHeartbeats 1000000 in
theorem head_any (r g gb : Nat) (q : List Nat × Bool) (w : World) (h : Ry w r g gb q) (hr : q.1.length ≤ 140737488355328) :
    Calls Try.prog 30 #[.pointer (some ⟨r, 0, none⟩)] w fun x w' => x = .returned (.tuple #[]) ∧ Ry w' r g gb (hdS q) ∧ But (RN r g) w w' := by
  have HC := hid (rowr_any r g gb q 8 w h hr)
  have hsm : ∀ x ∈ q.1.take (rwN q 8), x < 256 := fun x hx => h.rd.small x (List.mem_of_mem_take hx)
  have HSm := hid hsm
  unfold hdS
  generalize q.1.take (rwN q 8) = L at HC HSm ⊢
  generalize rwS q 8 = q2 at HC ⊢
  clear h hr hsm
  have hmk : (⟨#[115, 101, 115, 97, 109, 101, 32, 49]⟩ : ByteArray) = strB mkB := by rfl
  have hcmp : ∀ x y : ByteArray, x ≠ y → (x.toList == y.toList) = false := fun x y hxy => by
    rw [Bool.eq_false_iff]
    intro e
    apply hxy
    have e2 := eq_of_beq e
    apply ByteArray.ext
    apply Array.ext'
    rw [ByteArray.toList_eq, ByteArray.toList_eq] at e2
    exact e2
  by_cases hL : L = mkB
  · subst hL
    rw [decide_eq_true rfl]
    go_enter Try.func30, Try.ntmps30
    go_wp2_with (first | (go_at_call 56; refine HC.out.mono ?_; rintro x w2 ⟨a2, m2, c2, rfl, ho2, hr2, hb2⟩; have hcv := ho2.read.conv; have HR2 := hid hr2; have HB2 := hid hb2; clear ho2 hr2 hb2))
    exact bodyPost_end (v := .tuple #[]) (by simp [results, Try.results30, go_sem]) rfl ⟨rfl, by simpa using HR2.out, HB2.out⟩
  · have hbe := hcmp (strB L) (strB mkB) (fun e => hL (strB_inj HSm.out (by decide) e))
    rw [decide_eq_false hL]
    clear hL
    go_enter Try.func30, Try.ntmps30
    go_upto_region 1 with (first | (go_at_call 56; refine HC.out.mono ?_; rintro x w2 ⟨a2, m2, c2, rfl, ho2, hr2, hb2⟩; have hcv := ho2.read.conv; have HR2 := hid hr2; have HB2 := hid hb2; clear ho2 hr2 hb2))
    obtain ⟨z1, f1⟩ := HR2.out.c1
    go_wp2
    exact bodyPost_end (v := .tuple #[]) (by simp [results, Try.results30, go_sem]) rfl ⟨rfl, by simpa using HR2.out.mark true, HB2.out.setCell (.inr rfl) _⟩
end Go.Proofs.Ythfmmfphnimlnaa
namespace Go.Proofs.Ythfmmfphnimlnaa
open Go.RowKit
set_option linter.unusedVariables false
set_option linter.unusedSimpArgs false
/-- A list of rows of k cells in memory of its own. -/
def Ow (w : World) (base : Nat) (e : TypeId) (k : Nat) (a : Option Addr) (n cap : Nat) (L : List Value) : Prop := w.ownsRow base e k (.slice a n cap) n L
theorem Ow.nil (w : World) (base : Nat) (e : TypeId) (k : Nat) : Ow w base e k none 0 0 [] := ⟨by simp, .inl ⟨rfl, rfl⟩⟩
theorem Ow.blk {w : World} {base : Nat} {e : TypeId} {k : Nat} {a : Option Addr} {n cap : Nat} {L : List Value} (h : Ow w base e k a n cap L) : ∀ j, Blk a j → base ≤ j ∧ j < w.heap.size := by
  intro j ⟨x, hx, hk⟩
  rcases h.2 with ⟨h1, h2⟩ | ⟨g, cp, cur, hv, hg, hh, r⟩
  · simp only [Value.slice.injEq] at h1
    rw [hx] at h1
    exact absurd h1.1 (by simp)
  · simp only [Value.slice.injEq] at hv
    rw [hx] at hv
    have e := Option.some.inj hv.1
    rw [e] at hk
    simp only at hk
    subst hk
    exact ⟨hg, (Array.getElem?_eq_some_iff.1 hh).1⟩
theorem Ow.but {S : Nat → Prop} {w w' : World} {base : Nat} {e : TypeId} {k : Nat} {a : Option Addr} {n cap : Nat} {L : List Value} (h : Ow w base e k a n cap L) (hb : But S w w') (hn : ∀ j, Blk a j → ¬ S j) : Ow w' base e k a n cap L := by
  obtain ⟨h1, h2⟩ := h
  refine ⟨h1, ?_⟩
  rcases h2 with h2 | ⟨g, cp, cur, hv, hg, hh, r⟩
  · exact .inl h2
  · refine .inr ⟨g, cp, cur, hv, hg, ?_, r⟩
    rw [hb.block g (Array.getElem?_eq_some_iff.1 hh).1 (hn g (by simp only [Value.slice.injEq] at hv; exact ⟨_, hv.1, rfl⟩))]
    exact hh
theorem Ow.later {w w' : World} {base : Nat} {e : TypeId} {k : Nat} {a : Option Addr} {n cap : Nat} {L : List Value} (h : Ow w base e k a n cap L) (hb : Below w.heap.size w w') : Ow w' base e k a n cap L := h.but (S := fun _ => False) (But.of hb) (fun _ _ h => h)
theorem ow_snoc (t e : TypeId) (z : Value) (k by_ : Nat) (ht : Try.prog.underlying t = some (.slice e)) (hinf : (Try.prog.info? e).map (fun i => (i.zero, i.size, i.bytes)) = some (some z, k, by_)) (hzs : z.cells.size = k) (hk : 0 < k)
    {w : World} {base : Nat} {a : Option Addr} {n cap : Nat} {L cs : List Value} (h : Ow w base e k a n cap L) (hl : cs.length = k) (h1 : ∀ u ∈ cs, u.oneCell' = true) (hb : base ≤ w.heap.size) (hn : n + 1 ≤ 100000) (hby : by_ ≤ 1000) :
    ∃ a' c' w', (Builtin.append_ #[t, t] t #[.slice a n cap, .slice (some ⟨w.heap.size, 0, none⟩) 1 1]).run Try.prog (w.alloc (Obj.cells cs.toArray e)) = .ok (.slice a' (n + 1) c') w' ∧ Ow w' base e k a' (n + 1) c' (L ++ cs) ∧ But (Blk a) w w' ∧ ∀ j, Blk a' j → Blk a j ∨ w.heap.size ≤ j := by
  obtain ⟨i, hi, hz0, hz1, hz2⟩ := info_parts hinf
  have hb1 := below1 w (Obj.cells cs.toArray e)
  have hbyt : (n + 1) * by_ ≤ 140737488355328 := by
    have := Nat.mul_le_mul hn hby
    omega
  obtain ⟨v', w', hr, h2, h3, _, h5⟩ := run_append_own_at (P := Try.prog) (w.alloc (Obj.cells cs.toArray e)) base t t e i z k by_ ht hi hz0 hz1 hz2 hzs hk _ n _ (h.later hb1) ⟨w.heap.size, 0, none⟩ 1 1 cs (by rw [hl, Nat.one_mul]) (fun j u hu => by
    rw [addr_add0]
    have := rangeAt_new w cs e j u hu
    rw [Nat.zero_add] at this
    exact this) h1 (by unfold maxLen; omega) hbyt (by simp; omega)
  obtain ⟨a', c', rfl⟩ : ∃ a' c', v' = .slice a' (n + 1) c' := by
    rcases h2.2 with ⟨h, h'⟩ | ⟨g', cap', _, h, _⟩
    · exact ⟨.none, 0, by rw [h, h']⟩
    · exact ⟨_, cap', h⟩
  have hbut : But (Blk a) (w.alloc (Obj.cells cs.toArray e)) w' := ⟨h3.os, h3.tape, h3.output, h3.size, fun j hj hn => h3.block j hj (fun e => hn (Blk.of.1 e.symm))⟩
  refine ⟨a', c', w', hr, h2, (But.of hb1).trans hbut, fun j hj => ?_⟩
  rcases h5 with h5 | h5
  · rw [Blk.of.2 hj] at h5
    exact .inl (Blk.of.1 h5.symm)
  · rw [Blk.of.2 hj] at h5
    right
    simp at h5
    omega
theorem Ow.at_ {w : World} {base : Nat} {e : TypeId} {k : Nat} {a : Option Addr} {n cap : Nat} {X : List (List Value)} (h : Ow w base e k a n cap X.flatten) (hX : ∀ x ∈ X, x.length = k) (hk : 0 < k) : Lk w k ⟨a, n, cap⟩ X := by
  have hfl : ∀ (Y : List (List Value)), (∀ x ∈ Y, x.length = k) → Y.flatten.length = Y.length * k ∧ ∀ i c, Y[i]? = some c → ∀ j v, c[j]? = some v → Y.flatten[i * k + j]? = some v := by
    intro Y hY
    induction Y with
    | nil => exact ⟨by simp, fun i c hc => by simp at hc⟩
    | cons y Y ih =>
      obtain ⟨i1, i2⟩ := ih (fun x hx => hY x (List.mem_cons_of_mem _ hx))
      have hy := hY y List.mem_cons_self
      refine ⟨by rw [List.flatten_cons, List.length_append, i1, hy, List.length_cons, Nat.add_mul]; omega, fun i c hc j v hv => ?_⟩
      rw [List.flatten_cons]
      cases i with
      | zero =>
        simp only [List.getElem?_cons_zero, Option.some.injEq] at hc
        subst hc
        have hj := (List.getElem?_eq_some_iff.1 hv).1
        rw [Nat.zero_mul, Nat.zero_add, List.getElem?_append_left hj]
        exact hv
      | succ i =>
        rw [List.getElem?_cons_succ] at hc
        have := i2 i c hc j v hv
        rw [List.getElem?_append_right (by rw [hy, Nat.add_mul]; omega), hy, show (i + 1) * k + j - k = i * k + j by rw [Nat.add_mul]; omega]
        exact this
  obtain ⟨f1, f2⟩ := hfl X hX
  have hlen : X.length = n := by
    have := h.1
    rw [f1] at this
    exact Nat.eq_of_mul_eq_mul_right hk this
  rcases h.2 with ⟨hv, hn⟩ | ⟨g, cp, cur, hv, hg, hh, hc, hm, hs, ht⟩
  · simp only [Value.slice.injEq] at hv
    obtain ⟨rfl, rfl, rfl⟩ := hv
    have : X = [] := List.eq_nil_of_length_eq_zero hlen
    subst this
    exact Lk.empty w k
  · simp only [Value.slice.injEq] at hv
    obtain ⟨rfl, _, rfl⟩ := hv
    refine ⟨hlen, hc, (fun e => by cases e), fun i c hic => ⟨g, 0, rfl, fun j v hjv => ?_⟩⟩
    have hx := f2 i c hic j v hjv
    rw [← ht] at hx
    have hlt := (List.getElem?_eq_some_iff.1 hx).1
    rw [List.getElem?_take_of_lt (by simp at hlt; omega)] at hx
    simp only [World.cell?, hh]
    rw [show 0 + i * k + j = i * k + j by omega]
    simpa using hx
end Go.Proofs.Ythfmmfphnimlnaa
namespace Go.Proofs.Ythfmmfphnimlnaa
open Go.RowKit
set_option linter.unusedVariables false
set_option linter.unusedSimpArgs false
abbrev Qs := List Nat × Bool
/-- So many read one behind the other. -/
def rdL {α : Type} (f : Qs → α × Qs) : Nat → Qs → List α × Qs
  | 0, q => ([], q)
  | n + 1, q => ((f q).1 :: (rdL f n (f q).2).1, (rdL f n (f q).2).2)
theorem rdL_step {α : Type} {f : Qs → α × Qs} {n j : Nat} {q0 qj : Qs} {L : List α} (h : rdL f n q0 = (L ++ (rdL f (n - j) qj).1, (rdL f (n - j) qj).2)) (hj : j < n) : rdL f n q0 = ((L ++ [(f qj).1]) ++ (rdL f (n - (j + 1)) (f qj).2).1, (rdL f (n - (j + 1)) (f qj).2).2) := by
  rw [h, show n - j = (n - (j + 1)) + 1 by omega]
  simp [rdL]
theorem rdL_len {α : Type} (f : Qs → α × Qs) : ∀ n q, (rdL f n q).1.length = n
  | 0, q => rfl
  | n + 1, q => by simp [rdL, rdL_len f n]
theorem nm_le (q : Qs) (k m : Int) (hm : 0 ≤ m) : (nmV q k m : Int) ≤ m := by
  unfold nmV intV
  split
  · rename_i h
    unfold intE at h
    rw [if_neg (by omega)] at h
    by_cases h1 : lookE q.1 k ≠ 0
    · rw [if_pos h1] at h; exact absurd h h1
    · rw [if_neg h1] at h
      by_cases h2 : m < ((lookV q.1 k : Nat) : Int)
      · rw [if_pos h2] at h; cases h
      · omega
  · simpa using hm
theorem nm_len (q : Qs) (k m : Int) : (nmS q k m).1.length ≤ q.1.length := by simp [nmS]
theorem rw_len (q : Qs) (k : Int) : (rwS q k).1.length ≤ q.1.length := by simp [rwS]
theorem cp_len (q : Qs) : (cpS q).1.length ≤ q.1.length := by simp [cpS]
theorem nm_sm {q : Qs} {k m : Int} (h : ∀ x ∈ q.1, x < 256) : ∀ x ∈ (nmS q k m).1, x < 256 := fun x hx => h x (List.mem_of_mem_drop hx)
theorem cp_sm {q : Qs} (h : ∀ x ∈ q.1, x < 256) : ∀ x ∈ (cpS q).1, x < 256 := fun x hx => h x (List.mem_of_mem_drop hx)
theorem rw_sm {q : Qs} {k : Int} (h : ∀ x ∈ q.1, x < 256) : ∀ x ∈ (rwS q k).1, x < 256 := fun x hx => h x (List.mem_of_mem_drop hx)
theorem val8 {L : List Nat} (h : ∀ x ∈ L, x < 256) : valL (L.take 8) < 18446744073709551616 := by
  have h1 := valL_lt (L.take 8) (fun x hx => h x (List.mem_of_mem_take hx))
  have h2 : (L.take 8).length ≤ 8 := by rw [List.length_take]; omega
  have h3 : 256 ^ (L.take 8).length ≤ 256 ^ 8 := Nat.pow_le_pow_right (by omega) h2
  have h4 : (256 : Nat) ^ 8 = 18446744073709551616 := by decide
  omega
theorem cp_ok {q : Qs} (h : ∀ x ∈ q.1, x < 256) : (cpV q).ok ∧ 0 ≤ (cpV q).o := by
  refine ⟨⟨?_, ?_⟩, by simp [cpV]⟩
  · show capHi q.1 < _
    unfold capHi
    split
    · unfold hiV
      exact val8 (fun x hx => h x (List.mem_of_mem_drop (List.mem_of_mem_drop hx)))
    · omega
  · show capLo q.1 < _
    unfold capLo
    split
    · unfold loV
      exact val8 (fun x hx => h x (List.mem_of_mem_drop hx))
    · omega
theorem one3 (x : Int) (y z : Int) : ∀ u ∈ ([.int .i64 x, .int .u64 y, .int .u64 z] : List Value), u.oneCell' = true := by
  intro u hu
  simp only [List.mem_cons, List.not_mem_nil, or_false] at hu
  rcases hu with rfl | rfl | rfl <;> rfl
/-- Behind a reading one is appended. -/
theorem ow_read (t e : TypeId) (z : Value) (k by_ : Nat) (ht : Try.prog.underlying t = some (.slice e)) (hinf : (Try.prog.info? e).map (fun i => (i.zero, i.size, i.bytes)) = some (some z, k, by_)) (hzs : z.cells.size = k) (hk : 0 < k) (hby : by_ ≤ 1000)
    {w U w2 : World} {r g gb : Nat} {q qk : Qs} {a : Option Addr} {n c : Nat} {L cs : List Value} (hS : g < w.heap.size ∧ r < w.heap.size ∧ (q.1 ≠ [] → gb < w.heap.size)) (hO : Ow U w.heap.size e k a n c L) (hB : But (RN r g) w U) (hb2 : But (RN r g) U w2) (hr2 : Ry w2 r g gb qk) (hne : qk.1 ≠ [] → q.1 ≠ [])
    (hl : cs.length = k) (h1 : ∀ u ∈ cs, u.oneCell' = true) (hn : n + 1 ≤ 100000) :
    ∃ a3 c3 w3, (Builtin.append_ #[t, t] t #[.slice a n c, .slice (some ⟨w2.heap.size, 0, none⟩) 1 1]).run Try.prog (w2.alloc (Obj.cells cs.toArray e)) = .ok (.slice a3 (n + 1) c3) w3 ∧ Ow w3 w.heap.size e k a3 (n + 1) c3 (L ++ cs) ∧ Ry w3 r g gb qk ∧ But (RN r g) w w3 ∧ But (Blk a) w2 w3 ∧ ∀ j, Blk a j → w.heap.size ≤ j := by
  have hO2 := hO.but hb2 (fun k hk hk2 => by have := hO.blk k hk; rcases hk2 with rfl | rfl <;> omega)
  have hbw2 := hB.trans hb2
  obtain ⟨a3, c3, w3, hrun3, hO3, hbut3, _⟩ := ow_snoc t e z k by_ ht hinf hzs hk (cs := cs) hO2 hl h1 hbw2.size hn hby
  refine ⟨a3, c3, w3, hrun3, hO3, ?_, hbw2.comp hbut3 (fun k hk => .inr (hO2.blk k hk).1), hbut3, fun j hj => (hO2.blk j hj).1⟩
  exact hr2.but hbut3 (fun hk => by have := hO2.blk _ hk; omega) (fun hk => by have := hO2.blk _ hk; omega) (fun hx hk => by have := hO2.blk _ hk; have := hS.2.2 (hne hx); omega)
def rdC (q : Qs) : Cp × Qs := (cpV q, cpS q)
def lsV (q : Qs) : List Cp := (rdL rdC (nmV q 1 32) (nmS q 1 32)).1
def lsS (q : Qs) : Qs := (rdL rdC (nmV q 1 32) (nmS q 1 32)).2
theorem infoC3 : (Try.prog.info? 65).map (fun i => (i.zero, i.size, i.bytes)) = some (some (.agg #[.int .i64 0, .int .u64 0, .int .u64 0]), 3, 24) := by kernel_rfl
set_option maxRecDepth 100000 in
set_option maxHeartbeats 4000000 in
theorem listr_any (r g gb : Nat) (q : Qs) (w : World) (h : Ry w r g gb q) :
    Calls Try.prog 86 #[.pointer (some ⟨r, 0, none⟩)] w fun x w' => ∃ a n c, x = .returned (.slice a n c) ∧ n ≤ 32 ∧ (lsV q).length = n ∧ Ow w' w.heap.size 65 3 a n c ((lsV q).map encC).flatten ∧ Ry w' r g gb (lsS q) ∧ But (RN r g) w w' := by
  have HS : Hid (g < w.heap.size ∧ r < w.heap.size ∧ (q.1 ≠ [] → gb < w.heap.size)) := ⟨h.rd.gl, World.block_lt_of_cell? _ _ h.c0, fun hR => h.rd.gb hR⟩
  have HC := hid (number_any r g gb q 1 32 w h (by omega))
  have hn := nm_le q 1 32 (by omega)
  have HK := hid capr_any
  unfold lsV lsS
  have HNe : Hid ((nmS q 1 32).1 ≠ [] → q.1 ≠ []) := fun hx => drop_ne (n := intN q.1 1 32) hx
  generalize nmV q 1 32 = n at HC hn ⊢
  generalize nmS q 1 32 = q1 at HC HNe ⊢
  clear h
  go_enter Try.func86, Try.ntmps86
  go_upto_region 3 with (first | (go_at_call 58; refine HC.out.mono ?_; rintro x w1 ⟨rfl, hr1, hb1⟩; have HR1 := hid hr1; have HB1 := hid hb1; clear hr1 hb1))
  go_loopw [3, 6] (fun t i U => ∃ (j : Nat) (a : Option Addr) (c : Nat) (L : List Cp) (qj : Qs), i = .int .i64 (j : Int) ∧ t = .slice a j c ∧ j ≤ n ∧ L.length = j ∧ rdL rdC n q1 = (L ++ (rdL rdC (n - j) qj).1, (rdL rdC (n - j) qj).2) ∧ (qj.1 ≠ [] → q.1 ≠ []) ∧ Ow U w.heap.size 65 3 a j c (L.map encC).flatten ∧ Ry U r g gb qj ∧ But (RN r g) w U) (fun _ i _ => n - ivN i)
  case atStart => exact ⟨0, none, 0, [], q1, rfl, rfl, Nat.zero_le _, rfl, by simp, HNe.out, Ow.nil _ _ _ _, HR1.out, HB1.out⟩
  case round =>
    obtain ⟨j, a, c, L, qj, rfl, rfl, hj, hL, hE, hne, hO, hR, hB⟩ := hrel
    have HE := hid hE
    have HN2 := hid hne
    have HO := hid hO
    have HR := hid hR
    have HB := hid hB
    have HLl := hid hL
    clear hE hne hO hR hB hL
    by_cases hlt : j < n
    · have hd : decide ((j : Int) < (n : Int)) = true := by simp; omega
      have HE2 := hid (rdL_step HE.out hlt)
      have HCp := hid (HK.out r g gb qj wr HR.out)
      have HN3 : Hid ((cpS qj).1 ≠ [] → q.1 ≠ []) := fun hx => HN2.out (drop_ne (n := capN qj.1) hx)
      have HEn : Hid (encC (cpV qj) = [.int .i64 (cpV qj).o, .int .u64 ((cpV qj).h : Int), .int .u64 ((cpV qj).l : Int)]) := rfl
      have HE3 : Hid (rdL rdC n q1 = ((L ++ [cpV qj]) ++ (rdL rdC (n - (j + 1)) (cpS qj)).1, (rdL rdC (n - (j + 1)) (cpS qj)).2)) := HE2.out
      generalize cpV qj = v at HCp HEn HE3
      generalize cpS qj = qk at HCp HN3 HE3
      obtain ⟨vo, vh, vl⟩ := v
      simp only at HCp HEn
      clear HE2 HE
      go_wp2_with (first
        | (go_at_call 84; refine HCp.out.mono ?_; rintro x w2 ⟨rfl, hr2, hb2⟩; obtain ⟨a3, c3, w3, hrun3, hO3, hR3, hB3, _, _⟩ := ow_read 49 65 _ 3 24 Try.underlying49 infoC3 rfl (by omega) (by omega) (cs := [.int .i64 vo, .int .u64 (vh : Int), .int .u64 (vl : Int)]) HS.out HO.out HB.out hb2 hr2 HN3.out rfl (one3 _ _ _) (by omega); have HRUN := hid hrun3; have HO3 := hid hO3; have HR3 := hid hR3; have HB3 := hid hB3; clear hr2 hb2 hrun3 hO3 hR3 hB3)
        | (at_builtin; refine wpList_append_known rfl _ _ 49 rfl _ _ rfl rfl _ w3 HRUN.out ?_))
      exact ⟨⟨j + 1, a3, c3, _, qk, rfl, rfl, by omega, by simp [HLl.out], HE3.out, HN3.out, by rw [List.map_append, List.flatten_append]; simpa [HEn.out] using HO3.out, HR3.out, HB3.out⟩, by simp [ivN]; omega⟩
    · obtain rfl : j = n := by omega
      have e0 : rdL rdC j q1 = (L, qj) := by rw [HE.out, Nat.sub_self]; simp [rdL]
      have HE0 := hid e0
      clear e0
      go_wp2
      go_ret
      rw [HE0.out]
      exact ⟨a, j, c, rfl, by omega, HLl.out, HO.out, HR.out, HB.out⟩
end Go.Proofs.Ythfmmfphnimlnaa
namespace Go.Proofs.Ythfmmfphnimlnaa
open Go.RowKit
set_option linter.unusedVariables false
set_option linter.unusedSimpArgs false
theorem info2 : (Try.prog.info? 60).map (fun i => (i.zero, i.size, i.bytes)) = some (some (.agg #[.int .i64 0, .slice none 0 0]), 2, 32) := by kernel_rfl
theorem info2p : (Try.prog.info? 51).map (fun i => (i.zero, i.size, i.bytes)) = some (some (.agg #[.int .i64 0, .slice none 0 0]), 2, 32) := by kernel_rfl
theorem info5t : (Try.prog.info? 67).map (fun i => (i.zero, i.size, i.bytes)) = some (some (.agg #[.int .i64 0, .int .u64 0, .int .u64 0, .int .i64 0, .int .i64 0]), 5, 40) := by kernel_rfl
theorem one2 (x : Int) (a : Option Addr) (n c : Nat) : ∀ u ∈ ([.int .i64 x, .slice a n c] : List Value), u.oneCell' = true := by
  intro u hu
  simp only [List.mem_cons, List.not_mem_nil, or_false] at hu
  rcases hu with rfl | rfl <;> rfl
theorem one5 (x y z u v : Int) : ∀ k ∈ ([.int .i64 x, .int .u64 y, .int .u64 z, .int .i64 u, .int .i64 v] : List Value), k.oneCell' = true := by
  intro k hk
  simp only [List.mem_cons, List.not_mem_nil, or_false] at hk
  rcases hk with rfl | rfl | rfl | rfl | rfl <;> rfl
def oq1 (q : Qs) : Qs := nmS q 8 MI
def oq2 (q : Qs) : Qs := nmS (oq1 q) 2 4096
def onB (q : Qs) : Nat := nmV (oq1 q) 2 4096
def rdO (q : Qs) : Ob × Qs := (⟨(nmV q 8 MI : Int), (oq2 q).1.take (rwN (oq2 q) (onB q))⟩, rwS (oq2 q) (onB q))
def obV (q : Qs) : List Ob := (rdL rdO (nmV q 2 64) (nmS q 2 64)).1
def obS2 (q : Qs) : Qs := (rdL rdO (nmV q 2 64) (nmS q 2 64)).2
/-- Objects in memory of their own. -/
structure ObO (w : World) (base : Nat) (a : Option Addr) (n c : Nat) (Q : List (Ob × Sl)) : Prop where
  len : Q.length = n
  row : Ow w base 60 2 a n c (Q.map encO).flatten
  each : ∀ p ∈ Q, Own w base p.2.a p.2.n p.2.c p.1.b
theorem ObO.but {S : Nat → Prop} {w w' : World} {base : Nat} {a : Option Addr} {n c : Nat} {Q : List (Ob × Sl)} (h : ObO w base a n c Q) (hb : But S w w') (hS : ∀ k, base ≤ k → k < w.heap.size → ¬ S k) : ObO w' base a n c Q :=
  ⟨h.len, h.row.but hb (fun j hj => hS j (h.row.blk j hj).1 (h.row.blk j hj).2), fun p hp => (h.each p hp).but2 hb (fun k hk => hS k ((h.each p hp).blk k hk) ((h.each p hp).lt k hk))⟩
set_option maxRecDepth 100000 in
set_option maxHeartbeats 4000000 in
theorem objr_any (r g gb : Nat) (q : Qs) (w : World) (h : Ry w r g gb q) (hql : q.1.length ≤ 140737488355328) :
    Calls Try.prog 59 #[.pointer (some ⟨r, 0, none⟩)] w fun x w' => ∃ a n c Q, x = .returned (.slice a n c) ∧ n ≤ 64 ∧ Q.map Prod.fst = obV q ∧ ObO w' w.heap.size a n c Q ∧ Ry w' r g gb (obS2 q) ∧ But (RN r g) w w' := by
  have HS : Hid (g < w.heap.size ∧ r < w.heap.size ∧ (q.1 ≠ [] → gb < w.heap.size)) := ⟨h.rd.gl, World.block_lt_of_cell? _ _ h.c0, fun hR => h.rd.gb hR⟩
  have HC := hid (number_any r g gb q 2 64 w h (by omega))
  have hn := nm_le q 2 64 (by omega)
  have HNu := hid number_any
  have HRo := hid rowr_any
  have HQl := hid hql
  unfold obV obS2
  have HNe : Hid ((nmS q 2 64).1 ≠ [] → q.1 ≠ []) := fun hx => drop_ne (n := intN q.1 2 64) hx
  have HL1 : Hid ((nmS q 2 64).1.length ≤ 140737488355328) := Nat.le_trans (nm_len q 2 64) hql
  generalize nmV q 2 64 = n at HC hn ⊢
  generalize nmS q 2 64 = q1 at HC HNe HL1 ⊢
  clear h hql
  go_enter Try.func59, Try.ntmps59
  go_upto_region 3 with (first | (go_at_call 58; refine HC.out.mono ?_; rintro x w1 ⟨rfl, hr1, hb1⟩; have HR1 := hid hr1; have HB1 := hid hb1; clear hr1 hb1))
  go_loopw [3, 7] (fun t i U => ∃ (j : Nat) (a : Option Addr) (c : Nat) (Q : List (Ob × Sl)) (qj : Qs), i = .int .i64 (j : Int) ∧ t = .slice a j c ∧ j ≤ n ∧ rdL rdO n q1 = (Q.map Prod.fst ++ (rdL rdO (n - j) qj).1, (rdL rdO (n - j) qj).2) ∧ (qj.1 ≠ [] → q.1 ≠ []) ∧ qj.1.length ≤ 140737488355328 ∧ ObO U w.heap.size a j c Q ∧ Ry U r g gb qj ∧ But (RN r g) w U) (fun _ i _ => n - ivN i)
  case atStart => exact ⟨0, none, 0, [], q1, rfl, rfl, Nat.zero_le _, by simp, HNe.out, HL1.out, ⟨rfl, Ow.nil _ _ _ _, fun p hp => (by cases hp)⟩, HR1.out, HB1.out⟩
  case round =>
    obtain ⟨j, a, c, Q, qj, rfl, rfl, hj, hE, hne, hlj, hO, hR, hB⟩ := hrel
    have HE := hid hE
    have HN2 := hid hne
    have HO := hid hO
    have HR := hid hR
    have HB := hid hB
    have HLj := hid hlj
    clear hE hne hO hR hB hlj
    by_cases hlt : j < n
    · have hd : decide ((j : Int) < (n : Int)) = true := by simp; omega
      have HE3 : Hid (rdL rdO n q1 = ((Q.map Prod.fst ++ [(⟨(nmV qj 8 MI : Int), (oq2 qj).1.take (rwN (oq2 qj) (onB qj))⟩ : Ob)]) ++ (rdL rdO (n - (j + 1)) (rwS (oq2 qj) (onB qj))).1, (rdL rdO (n - (j + 1)) (rwS (oq2 qj) (onB qj))).2)) := rdL_step HE.out hlt
      have HC1 := hid (HNu.out r g gb qj 8 4611686018427387904 wr HR.out (by omega))
      have HN3 : Hid ((rwS (oq2 qj) (onB qj)).1 ≠ [] → q.1 ≠ []) := fun hx => HN2.out (drop_ne (n := intN qj.1 8 MI) (drop_ne (n := intN (oq1 qj).1 2 4096) (drop_ne (n := rowN (oq2 qj).1 (onB qj)) hx)))
      have HL2 : Hid ((oq2 qj).1.length ≤ 140737488355328) := Nat.le_trans (nm_len _ _ _) (Nat.le_trans (nm_len _ _ _) HLj.out)
      have HL3 : Hid ((rwS (oq2 qj) (onB qj)).1.length ≤ 140737488355328) := Nat.le_trans (rw_len _ _) HL2.out
      have HC1 : Hid (Calls Try.prog 58 #[.pointer (some ⟨r, 0, none⟩), .int .i64 8, .int .i64 4611686018427387904] wr fun x w' => x = .returned (.int .i64 (nmV qj 8 MI : Int)) ∧ Ry w' r g gb (oq1 qj) ∧ But (RN r g) wr w') := HC1.out
      have HC2 : Hid (∀ U, Ry U r g gb (oq1 qj) → Calls Try.prog 58 #[.pointer (some ⟨r, 0, none⟩), .int .i64 2, .int .i64 4096] U fun x w' => x = .returned (.int .i64 (onB qj : Int)) ∧ Ry w' r g gb (oq2 qj) ∧ But (RN r g) U w') := fun U hU => HNu.out r g gb (oq1 qj) 2 4096 U hU (by omega)
      have HC3 : Hid (∀ U, Ry U r g gb (oq2 qj) → Calls Try.prog 56 #[.pointer (some ⟨r, 0, none⟩), .int .i64 (onB qj : Int)] U fun x w' => ∃ a m c, x = .returned (.slice a m c) ∧ Own w' U.heap.size a m c ((oq2 qj).1.take (rwN (oq2 qj) (onB qj))) ∧ Ry w' r g gb (rwS (oq2 qj) (onB qj)) ∧ But (RN r g) U w') := fun U hU => HRo.out r g gb (oq2 qj) (onB qj) U hU HL2.out
      generalize nmV qj 8 MI = id at HC1 HE3
      generalize (oq2 qj).1.take (rwN (oq2 qj) (onB qj)) = by_ at HC3 HE3
      generalize rwS (oq2 qj) (onB qj) = qk at HC3 HN3 HL3 HE3
      generalize onB qj = nb at HC2 HC3
      generalize oq2 qj = q2 at HC2 HC3
      generalize oq1 qj = q1' at HC1 HC2
      clear HE HL2
      go_upto_region 5 with (first | (go_at_call 58; refine HC1.out.mono ?_; rintro x w2 ⟨rfl, hr2, hb2⟩; have HR2 := hid hr2; have HB2 := hid hb2; clear hr2 hb2))
      go_wp2_with (first
        | (go_at_call 58; refine (HC2.out _ HR2.out).mono ?_; rintro x w3 ⟨rfl, hr3, hb3⟩; have HR3 := hid hr3; have HB3 := hid (HB2.out.trans hb3); clear hr3 hb3)
        | (go_at_call 56; refine (HC3.out _ HR3.out).mono ?_; rintro x w4 ⟨a4, m4, c4, rfl, ho4, hr4, hb4⟩; obtain ⟨a5, c5, w5, hrun5, hO5, hR5, hB5, hbut5, hge⟩ := ow_read 24 60 _ 2 32 Try.underlying24 info2 rfl (by omega) (by omega) (cs := [.int .i64 (id : Int), .slice a4 m4 c4]) HS.out HO.out.row HB.out (HB3.out.trans hb4) hr4 HN3.out rfl (one2 _ _ _ _) (by omega); have HRUN := hid hrun5; have HO4 := hid ho4; have HB4 := hid hb4; have HO5 := hid hO5; have HR5 := hid hR5; have HB5 := hid hB5; have HBu5 := hid hbut5; clear ho4 hr4 hb4 hrun5 hO5 hR5 hB5 hbut5 hge)
        | (at_builtin; refine wpList_append_known rfl _ _ 24 rfl _ _ rfl rfl _ w5 HRUN.out ?_))
      refine ⟨⟨j + 1, a5, c5, Q ++ [(⟨(id : Int), by_⟩, ⟨a4, m4, c4⟩)], qk, rfl, rfl, by omega, by rw [List.map_append]; exact HE3.out, HN3.out, HL3.out, ?_, HR5.out, HB5.out⟩, by simp [ivN]; omega⟩
      have hb34 : But (RN r g) wr w4 := HB3.out.trans HB4.out
      have hO4r : Ow w4 w.heap.size 60 2 a j c (Q.map encO).flatten := HO.out.row.but hb34 (fun k hk hk2 => by have := HO.out.row.blk k hk; have := HS.out; rcases hk2 with rfl | rfl <;> omega)
      refine ⟨by simp [HO.out.len], by rw [List.map_append, List.flatten_append]; simpa [encO] using HO5.out, fun p hp => ?_⟩
      have hap : ∀ {x : Option Addr} {m c' : Nat} {B : List Nat}, Own w4 w.heap.size x m c' B → Own w5 w.heap.size x m c' B := fun hx => hx.but2 HBu5.out (fun k hk hk2 => own_apart hx.row hO4r (by decide) k (Blk.of.2 hk) (Blk.of.2 hk2))
      rcases List.mem_append.1 hp with hp | hp
      · exact hap ((HO.out.each p hp).but2 hb34 (fun k hk hk2 => by have := (HO.out.each p hp).blk k hk; have := HS.out; rcases hk2 with rfl | rfl <;> omega))
      · rw [List.mem_singleton.1 hp]
        exact hap (HO4.out.mono (HB.out.trans HB3.out).size)
    · obtain rfl : j = n := by omega
      have e0 : rdL rdO j q1 = (Q.map Prod.fst, qj) := by rw [HE.out, Nat.sub_self]; simp [rdL]
      have HE0 := hid e0
      clear e0
      go_wp2
      go_ret
      rw [HE0.out]
      exact ⟨a, j, c, Q, rfl, by omega, rfl, HO.out, HR.out, HB.out⟩
end Go.Proofs.Ythfmmfphnimlnaa
