import Derived.Test.YthfmmfphnimlnaaIS
namespace Go.Proofs.Ythfmmfphnimlnaa
open Go.RowKit
set_option linter.unusedVariables false
set_option linter.unusedSimpArgs false
/-- The reader of an image in memory. -/
structure Ry (w : World) (r g gb : Nat) (q : List Nat × Bool) : Prop where
  c0 : w.cell? ⟨r, 0, none⟩ = some (.pointer (some ⟨g, 0, none⟩))
  c1 : Lies w ⟨r, 1, none⟩ (.bool q.2)
  rd : Rd w g gb q.1
  n1 : r ≠ g
  n2 : q.1 ≠ [] → r ≠ gb
theorem Rd.but2 {S : Nat → Prop} {w w' : World} {g gb : Nat} {R : List Nat} (hb : But S w w') (h : Rd w g gb R) (h1 : ¬ S g) (h2 : R ≠ [] → ¬ S gb) : Rd w' g gb R := by
  by_cases hR : R = []
  · subst hR
    obtain ⟨o, cap, hl, hc, hcell⟩ := h.ex
    exact ⟨⟨o, cap, hl.but hb h1, hc, fun i hi => absurd hi (by simp)⟩, h.ne, h.small⟩
  · exact h.but hb h1 (h2 hR)
theorem Rd.gb {w : World} {g gb : Nat} {R : List Nat} (h : Rd w g gb R) (hR : R ≠ []) : gb < w.heap.size := by
  obtain ⟨o, cap, hl, hc, hcell⟩ := h.ex
  exact World.block_lt_of_cell? _ _ (hcell 0 (List.length_pos_iff.2 hR))
theorem Rd.gl {w : World} {g gb : Nat} {R : List Nat} (h : Rd w g gb R) : g < w.heap.size := by
  obtain ⟨o, cap, hl, hc, hcell⟩ := h.ex
  exact World.block_lt_of_cell? _ _ hl.1
abbrev RN (r g : Nat) (k : Nat) : Prop := k = g ∨ k = r
theorem Ry.but {S : Nat → Prop} {w w' : World} {r g gb : Nat} {q : List Nat × Bool} (h : Ry w r g gb q) (hb : But S w w') (h1 : ¬ S r) (h2 : ¬ S g) (h3 : q.1 ≠ [] → ¬ S gb) : Ry w' r g gb q :=
  ⟨cell_but hb h.c0 h1, h.c1.but hb h1, h.rd.but2 hb h2 h3, h.n1, h.n2⟩
theorem Ry.later {w w' : World} {r g gb : Nat} {q : List Nat × Bool} (h : Ry w r g gb q) (hb : Below w.heap.size w w') : Ry w' r g gb q := h.but (S := fun _ => False) (But.of hb) (fun h => h) (fun h => h) (fun _ h => h)
theorem Ry.read {w w' : World} {r g gb : Nat} {q : List Nat × Bool} {R' : List Nat} (h : Ry w r g gb q) (hb : But (· = g) w w') (hr : Rd w' g gb R') (hn : R' ≠ [] → q.1 ≠ []) : Ry w' r g gb (R', q.2) :=
  ⟨cell_but hb h.c0 h.n1, h.c1.but hb h.n1, hr, h.n1, fun hR => h.n2 (hn hR)⟩
theorem drop_ne {R : List Nat} {n : Nat} (h : R.drop n ≠ []) : R ≠ [] := by
  intro e; subst e; simp at h
theorem Ry.mark {w : World} {r g gb : Nat} {q : List Nat × Bool} (h : Ry w r g gb q) (b : Bool) : Ry (w.setCell ⟨r, 1, none⟩ (.bool b)) r g gb (q.1, b) := by
  refine ⟨?_, h.c1.put, h.rd.but2 (S := fun k => k = r) ((But.refl (fun k => k = r) w).setCell rfl _) (fun e => h.n1 e.symm) (fun hR e => h.n2 hR e.symm), h.n1, h.n2⟩
  rw [World.cell?_setCell_other _ _ _ _ (by simp)]
  exact h.c0
theorem RN.refl_but (r g : Nat) (w : World) : But (RN r g) w w := But.refl _ _
set_option maxRecDepth 100000 in
set_option maxHeartbeats 1000000 in
theorem note_any (r g gb : Nat) (q : List Nat × Bool) (e : Int) (w : World) (h : Ry w r g gb q) :
    Calls Try.prog 82 #[.pointer (some ⟨r, 0, none⟩), .int .i64 e] w fun x w' => x = .returned (.tuple #[]) ∧ Ry w' r g gb (q.1, q.2 || decide (e ≠ 0)) ∧ But (RN r g) w w' := by
  obtain ⟨c1, c2⟩ := h.c1
  obtain ⟨R, f⟩ := q
  simp only at c1 ⊢
  have HB : Hid (∀ b, But (RN r g) w (w.setCell ⟨r, 1, none⟩ (.bool b))) := fun b => (But.refl _ _).setCell (.inr rfl) _
  have HM := hid (fun b => h.mark b)
  simp only at HM
  clear h
  cases f with
  | true =>
    go_enter Try.func82, Try.ntmps82
    go_wp2
    exact bodyPost_end (v := .tuple #[]) (by simp [results, Try.results82, go_sem]) rfl ⟨rfl, by simpa using HM.out true, HB.out true⟩
  | false =>
    by_cases he : e = 0
    · subst he
      go_enter Try.func82, Try.ntmps82
      go_wp2
      exact bodyPost_end (v := .tuple #[]) (by simp [results, Try.results82, go_sem]) rfl ⟨rfl, by simpa using HM.out false, HB.out false⟩
    · have h1 : (e != 0) = true := by simpa using he
      have h2 : decide (e ≠ 0) = true := by simpa using he
      rw [h2]
      clear h2 he
      go_enter Try.func82, Try.ntmps82
      go_wp2
      exact bodyPost_end (v := .tuple #[]) (by simp [results, Try.results82, go_sem]) rfl ⟨rfl, by simpa using HM.out true, HB.out true⟩
def nmV (q : List Nat × Bool) (k m : Int) : Nat := intV q.1 k m
def nmS (q : List Nat × Bool) (k m : Int) : List Nat × Bool := (q.1.drop (intN q.1 k m), q.2 || decide (intE q.1 k m ≠ 0))
set_option maxRecDepth 100000 in
set_option maxHeartbeats 1000000 in
theorem number_any (r g gb : Nat) (q : List Nat × Bool) (k m : Int) (w : World) (h : Ry w r g gb q) (hm : m < 9223372036854775808) :
    Calls Try.prog 58 #[.pointer (some ⟨r, 0, none⟩), .int .i64 k, .int .i64 m] w fun x w' => x = .returned (.int .i64 (nmV q k m : Int)) ∧ Ry w' r g gb (nmS q k m) ∧ But (RN r g) w w' := by
  have c0 := h.c0
  have HC := hid (int_any g gb q.1 k m w h.rd hm)
  have HN := hid note_any
  have HH := hid h
  unfold nmV nmS
  generalize intV q.1 k m = v at HC ⊢
  generalize intN q.1 k m = n at HC ⊢
  generalize intE q.1 k m = e at HC ⊢
  clear h hm
  go_enter Try.func58, Try.ntmps58
  go_wp2_with (first | (go_at_call 83; refine HC.out.mono ?_; rintro x w2 ⟨rfl, hr2, hb2⟩; have HR2 := hid (HH.out.read hb2 hr2 drop_ne); have HB2 := hid (hb2.mono (T := RN r g) (fun k hk => .inl hk)); clear hr2 hb2) | (go_at_call 82; refine (HN.out r g gb _ e _ HR2.out).mono ?_; rintro x w3 ⟨rfl, hr3, hb3⟩; have HR3 := hid hr3; have HB3 := hid (HB2.out.trans hb3); clear hr3 hb3))
  go_ret
  exact ⟨rfl, HR3.out, HB3.out⟩
theorem two_any (r g gb : Nat) (q : List Nat × Bool) (w : World) (h : Ry w r g gb q) :
    Calls Try.prog 57 #[.pointer (some ⟨r, 0, none⟩)] w fun x w' => x = .returned (.int .i64 (nmV q 2 65535 : Int)) ∧ Ry w' r g gb (nmS q 2 65535) ∧ But (RN r g) w w' := by
  have HC := hid (number_any r g gb q 2 65535 w h (by omega))
  clear h
  go_enter Try.func57, Try.ntmps57
  go_wp2_with (first | (go_at_call 58; refine HC.out.mono ?_; rintro x w2 ⟨rfl, hr2, hb2⟩; have HR2 := hid hr2; have HB2 := hid hb2; clear hr2 hb2))
  go_ret
  exact ⟨rfl, HR2.out, HB2.out⟩
def paV (q : List Nat × Bool) : Int := if nmV q 2 65535 = 65535 then -1 else (nmV q 2 65535 : Int)
theorem parent_any (r g gb : Nat) (q : List Nat × Bool) (w : World) (h : Ry w r g gb q) :
    Calls Try.prog 85 #[.pointer (some ⟨r, 0, none⟩)] w fun x w' => x = .returned (.int .i64 (paV q)) ∧ Ry w' r g gb (nmS q 2 65535) ∧ But (RN r g) w w' := by
  have HC := hid (two_any r g gb q w h)
  unfold paV
  generalize nmV q 2 65535 = v at HC ⊢
  clear h
  by_cases hv : v = 65535
  · subst hv
    rw [if_pos rfl]
    go_enter Try.func85, Try.ntmps85
    go_wp2_with (first | (go_at_call 57; refine HC.out.mono ?_; rintro x w2 ⟨rfl, hr2, hb2⟩; have HR2 := hid hr2; have HB2 := hid hb2; clear hr2 hb2))
    go_ret
    exact ⟨rfl, HR2.out, HB2.out⟩
  · rw [if_neg hv]
    have e1 : ((v : Int) == 65535) = false := by simp; omega
    clear hv
    go_enter Try.func85, Try.ntmps85
    go_wp2_with (first | (go_at_call 57; refine HC.out.mono ?_; rintro x w2 ⟨rfl, hr2, hb2⟩; have HR2 := hid hr2; have HB2 := hid hb2; clear hr2 hb2))
    go_ret
    exact ⟨rfl, HR2.out, HB2.out⟩
def rwN (q : List Nat × Bool) (k : Int) : Nat := rowN q.1 k
def rwS (q : List Nat × Bool) (k : Int) : List Nat × Bool := (q.1.drop (rowN q.1 k), q.2 || decide (rowE q.1 k ≠ 0))
set_option maxRecDepth 100000 in
set_option maxHeartbeats 1000000 in
theorem rowr_any (r g gb : Nat) (q : List Nat × Bool) (k : Int) (w : World) (h : Ry w r g gb q) (hr : q.1.length ≤ 140737488355328) :
    Calls Try.prog 56 #[.pointer (some ⟨r, 0, none⟩), .int .i64 k] w fun x w' => ∃ a m c, x = .returned (.slice a m c) ∧ Own w' w.heap.size a m c (q.1.take (rwN q k)) ∧ Ry w' r g gb (rwS q k) ∧ But (RN r g) w w' := by
  have c0 := h.c0
  have HC := hid (row_any g gb q.1 k w h.rd hr)
  have HN := hid note_any
  have HH := hid h
  have HS : Hid (g < w.heap.size ∧ r < w.heap.size) := ⟨h.rd.gl, World.block_lt_of_cell? _ _ h.c0⟩
  unfold rwN rwS
  generalize rowN q.1 k = n at HC ⊢
  generalize rowE q.1 k = e at HC ⊢
  clear h hr
  go_enter Try.func56, Try.ntmps56
  go_wp2_with (first | (go_at_call 81; refine HC.out.mono ?_; rintro x w2 ⟨a2, m2, c2, rfl, ho2, hr2, hb2⟩; have HO2 := hid ho2; have HR2 := hid (HH.out.read hb2 hr2 drop_ne); have HB2 := hid (hb2.mono (T := RN r g) (fun k hk => .inl hk)); clear ho2 hr2 hb2) | (go_at_call 82; refine (HN.out r g gb _ e _ HR2.out).mono ?_; rintro x w3 ⟨rfl, hr3, hb3⟩; have HO3 := hid (HO2.out.but hb3 (fun k hk hk2 => by have := HS.out; rcases hk2 with rfl | rfl <;> omega)); have HR3 := hid hr3; have HB3 := hid (HB2.out.trans hb3); clear hr3 hb3))
  go_ret
  exact ⟨a2, m2, c2, rfl, HO3.out, HR3.out, HB3.out⟩
def cpV (q : List Nat × Bool) : Cp := ⟨(capObj q.1 : Int), capHi q.1, capLo q.1⟩
def cpS (q : List Nat × Bool) : List Nat × Bool := (q.1.drop (capN q.1), q.2 || decide (capE q.1 ≠ 0))
set_option maxRecDepth 100000 in
set_option maxHeartbeats 1000000 in
theorem capr_any (r g gb : Nat) (q : List Nat × Bool) (w : World) (h : Ry w r g gb q) :
    Calls Try.prog 84 #[.pointer (some ⟨r, 0, none⟩)] w fun x w' => x = .returned (.agg #[.int .i64 (cpV q).o, .int .u64 ((cpV q).h : Int), .int .u64 ((cpV q).l : Int)]) ∧ Ry w' r g gb (cpS q) ∧ But (RN r g) w w' := by
  obtain ⟨W, hW⟩ : ∃ W, W = w.alloc (Obj.cells #[.int .i64 0, .int .u64 0, .int .u64 0] 65) := ⟨_, rfl⟩
  have hB : Below w.heap.size w W := by rw [hW]; exact below1 _ _
  have HW := hid hW
  have hWy := h.later hB
  have HC := hid (cap_any g gb q.1 W hWy.rd)
  have HN := hid note_any
  have HH := hid hWy
  have c0 := hWy.c0
  have HB := hid hB
  have HS : Hid (g < w.heap.size ∧ r < w.heap.size ∧ (q.1 ≠ [] → gb < w.heap.size)) := ⟨h.rd.gl, World.block_lt_of_cell? _ _ h.c0, fun hR => h.rd.gb hR⟩
  unfold cpV cpS
  simp only
  generalize capObj q.1 = vo at HC ⊢
  generalize capHi q.1 = vh at HC ⊢
  generalize capLo q.1 = vl at HC ⊢
  generalize capN q.1 = n at HC ⊢
  generalize capE q.1 = e at HC ⊢
  clear h hW hWy hB
  go_enter Try.func84, Try.ntmps84
  go_upto_region 1 with fail
  rw [← HW.out]
  go_upto_region 2 with (first | (go_at_call 96; refine HC.out.mono ?_; rintro x w2 ⟨rfl, hr2, hb2⟩; have HR2 := hid (HH.out.read hb2 hr2 drop_ne); have HB2 := hid (hb2.mono (T := RN r g) (fun k hk => .inl hk)); clear hr2 hb2))
  obtain ⟨V, hV⟩ : ∃ V, V = w2.alloc (Obj.cells #[.int .i64 (vo : Int), .int .u64 (vh : Int), .int .u64 (vl : Int)] 65) := ⟨_, rfl⟩
  have HBV : Hid (Below w2.heap.size w2 V) := by rw [hV]; exact below1 _ _
  have HX : Hid (V.rangeAt w2.heap.size 0 [.int .i64 (vo : Int), .int .u64 (vh : Int), .int .u64 (vl : Int)]) := by rw [hV]; exact rangeAt_new w2 _ _
  rw [← hV]
  clear hV
  have HZ0 : Hid (∀ i v, [Value.int .i64 0, .int .u64 0, .int .u64 0][i]? = some v → Lies W ⟨w.heap.size, i, none⟩ v) := by
    intro i v hv
    rw [HW.out]
    exact _root_.Go.Proofs.Ythfmmfphnimlnaa.W.lies_new (by simpa using hv)
  have hWs : W.heap.size = w.heap.size + 1 := by rw [HW.out]; simp
  have HSz : Hid (w.heap.size < w2.heap.size) := by unfold Hid; have h1 := HB2.out.size; omega
  clear hWs
  have hcr := (HR2.out.later HBV.out)
  have HRV := hid hcr
  clear hcr c0
  go_upto_region 3 with (first | (go_at_call 82; refine (HN.out r g gb _ e _ HRV.out).mono ?_; rintro x w3 ⟨rfl, hr3, hb3⟩; have HR3 := hid hr3; have HB3 := hid hb3; clear hr3 hb3))
  have hnb : ∀ k, RN r g k → k ≠ w.heap.size ∧ k ≠ w2.heap.size := fun k hk => by have := HS.out; have := HSz.out; rcases hk with rfl | rfl <;> omega
  have hb4 : But (RN r g) W w3 := (HB2.out.call HBV.out).trans HB3.out
  obtain ⟨z0, f0⟩ := (HZ0.out 0 _ rfl).but hb4 (fun hk => (hnb _ hk).1 rfl)
  obtain ⟨z1, f1⟩ := (HZ0.out 1 _ rfl).but hb4 (fun hk => (hnb _ hk).1 rfl)
  obtain ⟨z2, f2⟩ := (HZ0.out 2 _ rfl).but hb4 (fun hk => (hnb _ hk).1 rfl)
  have x0 := cell_but HB3.out (HX.out 0 _ rfl) (fun hk => (hnb _ hk).2 rfl)
  have x1 := cell_but HB3.out (HX.out 1 _ rfl) (fun hk => (hnb _ hk).2 rfl)
  have x2 := cell_but HB3.out (HX.out 2 _ rfl) (fun hk => (hnb _ hk).2 rfl)
  have HB4 := hid hb4
  clear hb4 hnb
  simp only [Nat.zero_add] at x0 x1 x2
  go_wp2
  have hbS : But (fun k => k = w.heap.size) w3 (((w3.setCell ⟨w.heap.size, 0, none⟩ (.int .i64 (vo : Int))).setCell ⟨w.heap.size, 1, none⟩ (.int .u64 (vh : Int))).setCell ⟨w.heap.size, 2, none⟩ (.int .u64 (vl : Int))) := (((But.refl (fun k => k = w.heap.size) w3).setCell rfl _).setCell rfl _).setCell rfl _
  exact bodyPost_ret (v := .agg #[.int .i64 (vo : Int), .int .u64 (vh : Int), .int .u64 (vl : Int)]) (by simp [results, Try.results84, go_sem, z0, z1, z2]) rfl ⟨rfl, HR3.out.but hbS (fun e => by have := HS.out.2.1; omega) (fun e => by have := HS.out.1; omega) (fun hR e => by have := HS.out.2.2 (drop_ne hR); omega), ((But.of HB.out).trans HB4.out).comp hbS (fun i hi => .inr (by rw [hi]; exact Nat.le_refl _))⟩
set_option maxRecDepth 100000 in
set_option maxHeartbeats 1000000 in
theorem ended_any (r g gb : Nat) (q : List Nat × Bool) (w : World) (h : Ry w r g gb q) :
    Calls Try.prog 33 #[.pointer (some ⟨r, 0, none⟩)] w fun x w' => x = .returned (.bool (!q.2 && decide (q.1 = []))) ∧ w' = w := by
  have c0 := h.c0
  have c1 := h.c1.1
  have HE := hid (end_any g gb q.1 w h.rd)
  obtain ⟨R, f⟩ := q
  simp only at c1 HE ⊢
  clear h
  cases f with
  | true =>
    go_enter Try.func33, Try.ntmps33
    go_wp2
    go_ret
    exact ⟨rfl, rfl⟩
  | false =>
    have he : Hid (((endE R) == 0) = decide (R = [])) := by
      unfold Hid endE
      cases R with
      | nil => rfl
      | cons x R => simp
    generalize endE R = e at HE he
    go_enter Try.func33, Try.ntmps33
    go_wp2_with (first | (go_at_call 62; refine HE.out.mono ?_; rintro x w2 ⟨rfl, rfl⟩))
    go_ret
    exact ⟨ret_bool (by rw [he.out]; simp), rfl⟩
def hdS (q : List Nat × Bool) : List Nat × Bool := ((rwS q 8).1, (rwS q 8).2 || !decide (q.1.take (rwN q 8) = mkB))
set_option maxRecDepth 100000 in
set_option maxHeartbeats 1000000 in
theorem head_any (r g gb : Nat) (q : List Nat × Bool) (w : World) (h : Ry w r g gb q) (hr : q.1.length ≤ 140737488355328) :
    Calls Try.prog 30 #[.pointer (some ⟨r, 0, none⟩)] w fun x w' => x = .returned (.tuple #[]) ∧ Ry w' r g gb (hdS q) ∧ But (RN r g) w w' := by
  have HC := hid (rowr_any r g gb q 8 w h hr)
  have hsm : ∀ x ∈ q.1.take (rwN q 8), x < 256 := fun x hx => h.rd.small x (List.mem_of_mem_take hx)
  have HSm := hid hsm
  unfold hdS
  generalize q.1.take (rwN q 8) = L at HC HSm ⊢
  generalize rwS q 8 = q2 at HC ⊢
  clear h hr hsm
  have hmk : (⟨#[115, 101, 115, 97, 109, 101, 32, 49]⟩ : ByteArray) = strB mkB := by rfl
  have hcmp : ∀ x y : ByteArray, x ≠ y → (x.toList == y.toList) = false := fun x y hxy => by
    rw [Bool.eq_false_iff]
    intro e
    apply hxy
    have e2 := eq_of_beq e
    apply ByteArray.ext
    apply Array.ext'
    rw [ByteArray.toList_eq, ByteArray.toList_eq] at e2
    exact e2
  by_cases hL : L = mkB
  · subst hL
    rw [decide_eq_true rfl]
    go_enter Try.func30, Try.ntmps30
    go_wp2_with (first | (go_at_call 56; refine HC.out.mono ?_; rintro x w2 ⟨a2, m2, c2, rfl, ho2, hr2, hb2⟩; have hcv := ho2.read.conv; have HR2 := hid hr2; have HB2 := hid hb2; clear ho2 hr2 hb2))
    exact bodyPost_end (v := .tuple #[]) (by simp [results, Try.results30, go_sem]) rfl ⟨rfl, by simpa using HR2.out, HB2.out⟩
  · have hbe := hcmp (strB L) (strB mkB) (fun e => hL (strB_inj HSm.out (by decide) e))
    rw [decide_eq_false hL]
    clear hL
    go_enter Try.func30, Try.ntmps30
    go_upto_region 1 with (first | (go_at_call 56; refine HC.out.mono ?_; rintro x w2 ⟨a2, m2, c2, rfl, ho2, hr2, hb2⟩; have hcv := ho2.read.conv; have HR2 := hid hr2; have HB2 := hid hb2; clear ho2 hr2 hb2))
    obtain ⟨z1, f1⟩ := HR2.out.c1
    go_wp2
    exact bodyPost_end (v := .tuple #[]) (by simp [results, Try.results30, go_sem]) rfl ⟨rfl, by simpa using HR2.out.mark true, HB2.out.setCell (.inr rfl) _⟩
end Go.Proofs.Ythfmmfphnimlnaa
namespace Go.Proofs.Ythfmmfphnimlnaa
open Go.RowKit
set_option linter.unusedVariables false
set_option linter.unusedSimpArgs false
/-- A list of rows of k cells in memory of its own. -/
def Ow (w : World) (base : Nat) (e : TypeId) (k : Nat) (a : Option Addr) (n cap : Nat) (L : List Value) : Prop := w.ownsRow base e k (.slice a n cap) n L
theorem Ow.nil (w : World) (base : Nat) (e : TypeId) (k : Nat) : Ow w base e k none 0 0 [] := ⟨by simp, .inl ⟨rfl, rfl⟩⟩
theorem Ow.blk {w : World} {base : Nat} {e : TypeId} {k : Nat} {a : Option Addr} {n cap : Nat} {L : List Value} (h : Ow w base e k a n cap L) : ∀ j, Blk a j → base ≤ j ∧ j < w.heap.size := by
  intro j ⟨x, hx, hk⟩
  rcases h.2 with ⟨h1, h2⟩ | ⟨g, cp, cur, hv, hg, hh, r⟩
  · simp only [Value.slice.injEq] at h1
    rw [hx] at h1
    exact absurd h1.1 (by simp)
  · simp only [Value.slice.injEq] at hv
    rw [hx] at hv
    have e := Option.some.inj hv.1
    rw [e] at hk
    simp only at hk
    subst hk
    exact ⟨hg, (Array.getElem?_eq_some_iff.1 hh).1⟩
theorem Ow.but {S : Nat → Prop} {w w' : World} {base : Nat} {e : TypeId} {k : Nat} {a : Option Addr} {n cap : Nat} {L : List Value} (h : Ow w base e k a n cap L) (hb : But S w w') (hn : ∀ j, Blk a j → ¬ S j) : Ow w' base e k a n cap L := by
  obtain ⟨h1, h2⟩ := h
  refine ⟨h1, ?_⟩
  rcases h2 with h2 | ⟨g, cp, cur, hv, hg, hh, r⟩
  · exact .inl h2
  · refine .inr ⟨g, cp, cur, hv, hg, ?_, r⟩
    rw [hb.block g (Array.getElem?_eq_some_iff.1 hh).1 (hn g (by simp only [Value.slice.injEq] at hv; exact ⟨_, hv.1, rfl⟩))]
    exact hh
theorem Ow.later {w w' : World} {base : Nat} {e : TypeId} {k : Nat} {a : Option Addr} {n cap : Nat} {L : List Value} (h : Ow w base e k a n cap L) (hb : Below w.heap.size w w') : Ow w' base e k a n cap L := h.but (S := fun _ => False) (But.of hb) (fun _ _ h => h)
theorem ow_snoc (t e : TypeId) (z : Value) (k by_ : Nat) (ht : Try.prog.underlying t = some (.slice e)) (hinf : (Try.prog.info? e).map (fun i => (i.zero, i.size, i.bytes)) = some (some z, k, by_)) (hzs : z.cells.size = k) (hk : 0 < k)
    {w : World} {base : Nat} {a : Option Addr} {n cap : Nat} {L cs : List Value} (h : Ow w base e k a n cap L) (hl : cs.length = k) (h1 : ∀ u ∈ cs, u.oneCell' = true) (hb : base ≤ w.heap.size) (hn : n + 1 ≤ 100000) (hby : by_ ≤ 1000) :
    ∃ a' c' w', (Builtin.append_ #[t, t] t #[.slice a n cap, .slice (some ⟨w.heap.size, 0, none⟩) 1 1]).run Try.prog (w.alloc (Obj.cells cs.toArray e)) = .ok (.slice a' (n + 1) c') w' ∧ Ow w' base e k a' (n + 1) c' (L ++ cs) ∧ But (Blk a) w w' ∧ ∀ j, Blk a' j → Blk a j ∨ w.heap.size ≤ j := by
  obtain ⟨i, hi, hz0, hz1, hz2⟩ := info_parts hinf
  have hb1 := below1 w (Obj.cells cs.toArray e)
  have hbyt : (n + 1) * by_ ≤ 140737488355328 := by
    have := Nat.mul_le_mul hn hby
    omega
  obtain ⟨v', w', hr, h2, h3, _, h5⟩ := run_append_own_at (P := Try.prog) (w.alloc (Obj.cells cs.toArray e)) base t t e i z k by_ ht hi hz0 hz1 hz2 hzs hk _ n _ (h.later hb1) ⟨w.heap.size, 0, none⟩ 1 1 cs (by rw [hl, Nat.one_mul]) (fun j u hu => by
    rw [addr_add0]
    have := rangeAt_new w cs e j u hu
    rw [Nat.zero_add] at this
    exact this) h1 (by unfold maxLen; omega) hbyt (by simp; omega)
  obtain ⟨a', c', rfl⟩ : ∃ a' c', v' = .slice a' (n + 1) c' := by
    rcases h2.2 with ⟨h, h'⟩ | ⟨g', cap', _, h, _⟩
    · exact ⟨.none, 0, by rw [h, h']⟩
    · exact ⟨_, cap', h⟩
  have hbut : But (Blk a) (w.alloc (Obj.cells cs.toArray e)) w' := ⟨h3.os, h3.tape, h3.output, h3.size, fun j hj hn => h3.block j hj (fun e => hn (Blk.of.1 e.symm))⟩
  refine ⟨a', c', w', hr, h2, (But.of hb1).trans hbut, fun j hj => ?_⟩
  rcases h5 with h5 | h5
  · rw [Blk.of.2 hj] at h5
    exact .inl (Blk.of.1 h5.symm)
  · rw [Blk.of.2 hj] at h5
    right
    simp at h5
    omega
theorem Ow.at_ {w : World} {base : Nat} {e : TypeId} {k : Nat} {a : Option Addr} {n cap : Nat} {X : List (List Value)} (h : Ow w base e k a n cap X.flatten) (hX : ∀ x ∈ X, x.length = k) (hk : 0 < k) : Lk w k ⟨a, n, cap⟩ X := by
  have hfl : ∀ (Y : List (List Value)), (∀ x ∈ Y, x.length = k) → Y.flatten.length = Y.length * k ∧ ∀ i c, Y[i]? = some c → ∀ j v, c[j]? = some v → Y.flatten[i * k + j]? = some v := by
    intro Y hY
    induction Y with
    | nil => exact ⟨by simp, fun i c hc => by simp at hc⟩
    | cons y Y ih =>
      obtain ⟨i1, i2⟩ := ih (fun x hx => hY x (List.mem_cons_of_mem _ hx))
      have hy := hY y List.mem_cons_self
      refine ⟨by rw [List.flatten_cons, List.length_append, i1, hy, List.length_cons, Nat.add_mul]; omega, fun i c hc j v hv => ?_⟩
      rw [List.flatten_cons]
      cases i with
      | zero =>
        simp only [List.getElem?_cons_zero, Option.some.injEq] at hc
        subst hc
        have hj := (List.getElem?_eq_some_iff.1 hv).1
        rw [Nat.zero_mul, Nat.zero_add, List.getElem?_append_left hj]
        exact hv
      | succ i =>
        rw [List.getElem?_cons_succ] at hc
        have := i2 i c hc j v hv
        rw [List.getElem?_append_right (by rw [hy, Nat.add_mul]; omega), hy, show (i + 1) * k + j - k = i * k + j by rw [Nat.add_mul]; omega]
        exact this
  obtain ⟨f1, f2⟩ := hfl X hX
  have hlen : X.length = n := by
    have := h.1
    rw [f1] at this
    exact Nat.eq_of_mul_eq_mul_right hk this
  rcases h.2 with ⟨hv, hn⟩ | ⟨g, cp, cur, hv, hg, hh, hc, hm, hs, ht⟩
  · simp only [Value.slice.injEq] at hv
    obtain ⟨rfl, rfl, rfl⟩ := hv
    have : X = [] := List.eq_nil_of_length_eq_zero hlen
    subst this
    exact Lk.empty w k
  · simp only [Value.slice.injEq] at hv
    obtain ⟨rfl, _, rfl⟩ := hv
    refine ⟨hlen, hc, (fun e => by cases e), fun i c hic => ⟨g, 0, rfl, fun j v hjv => ?_⟩⟩
    have hx := f2 i c hic j v hjv
    rw [← ht] at hx
    have hlt := (List.getElem?_eq_some_iff.1 hx).1
    rw [List.getElem?_take_of_lt (by simp at hlt; omega)] at hx
    simp only [World.cell?, hh]
    rw [show 0 + i * k + j = i * k + j by omega]
    simpa using hx
end Go.Proofs.Ythfmmfphnimlnaa
namespace Go.Proofs.Ythfmmfphnimlnaa
open Go.RowKit
set_option linter.unusedVariables false
set_option linter.unusedSimpArgs false
abbrev Qs := List Nat × Bool
/-- So many read one behind the other. -/
def rdL {α : Type} (f : Qs → α × Qs) : Nat → Qs → List α × Qs
  | 0, q => ([], q)
  | n + 1, q => ((f q).1 :: (rdL f n (f q).2).1, (rdL f n (f q).2).2)
theorem rdL_step {α : Type} {f : Qs → α × Qs} {n j : Nat} {q0 qj : Qs} {L : List α} (h : rdL f n q0 = (L ++ (rdL f (n - j) qj).1, (rdL f (n - j) qj).2)) (hj : j < n) : rdL f n q0 = ((L ++ [(f qj).1]) ++ (rdL f (n - (j + 1)) (f qj).2).1, (rdL f (n - (j + 1)) (f qj).2).2) := by
  rw [h, show n - j = (n - (j + 1)) + 1 by omega]
  simp [rdL]
theorem rdL_len {α : Type} (f : Qs → α × Qs) : ∀ n q, (rdL f n q).1.length = n
  | 0, q => rfl
  | n + 1, q => by simp [rdL, rdL_len f n]
theorem nm_le (q : Qs) (k m : Int) (hm : 0 ≤ m) : (nmV q k m : Int) ≤ m := by
  unfold nmV intV
  split
  · rename_i h
    unfold intE at h
    rw [if_neg (by omega)] at h
    by_cases h1 : lookE q.1 k ≠ 0
    · rw [if_pos h1] at h; exact absurd h h1
    · rw [if_neg h1] at h
      by_cases h2 : m < ((lookV q.1 k : Nat) : Int)
      · rw [if_pos h2] at h; cases h
      · omega
  · simpa using hm
theorem nm_len (q : Qs) (k m : Int) : (nmS q k m).1.length ≤ q.1.length := by simp [nmS]
theorem rw_len (q : Qs) (k : Int) : (rwS q k).1.length ≤ q.1.length := by simp [rwS]
theorem cp_len (q : Qs) : (cpS q).1.length ≤ q.1.length := by simp [cpS]
theorem nm_sm {q : Qs} {k m : Int} (h : ∀ x ∈ q.1, x < 256) : ∀ x ∈ (nmS q k m).1, x < 256 := fun x hx => h x (List.mem_of_mem_drop hx)
theorem cp_sm {q : Qs} (h : ∀ x ∈ q.1, x < 256) : ∀ x ∈ (cpS q).1, x < 256 := fun x hx => h x (List.mem_of_mem_drop hx)
theorem rw_sm {q : Qs} {k : Int} (h : ∀ x ∈ q.1, x < 256) : ∀ x ∈ (rwS q k).1, x < 256 := fun x hx => h x (List.mem_of_mem_drop hx)
theorem val8 {L : List Nat} (h : ∀ x ∈ L, x < 256) : valL (L.take 8) < 18446744073709551616 := by
  have h1 := valL_lt (L.take 8) (fun x hx => h x (List.mem_of_mem_take hx))
  have h2 : (L.take 8).length ≤ 8 := by rw [List.length_take]; omega
  have h3 : 256 ^ (L.take 8).length ≤ 256 ^ 8 := Nat.pow_le_pow_right (by omega) h2
  have h4 : (256 : Nat) ^ 8 = 18446744073709551616 := by decide
  omega
theorem cp_ok {q : Qs} (h : ∀ x ∈ q.1, x < 256) : (cpV q).ok ∧ 0 ≤ (cpV q).o := by
  refine ⟨⟨?_, ?_⟩, by simp [cpV]⟩
  · show capHi q.1 < _
    unfold capHi
    split
    · unfold hiV
      exact val8 (fun x hx => h x (List.mem_of_mem_drop (List.mem_of_mem_drop hx)))
    · omega
  · show capLo q.1 < _
    unfold capLo
    split
    · unfold loV
      exact val8 (fun x hx => h x (List.mem_of_mem_drop hx))
    · omega
theorem one3 (x : Int) (y z : Int) : ∀ u ∈ ([.int .i64 x, .int .u64 y, .int .u64 z] : List Value), u.oneCell' = true := by
  intro u hu
  simp only [List.mem_cons, List.not_mem_nil, or_false] at hu
  rcases hu with rfl | rfl | rfl <;> rfl
/-- Behind a reading one is appended. -/
theorem ow_read (t e : TypeId) (z : Value) (k by_ : Nat) (ht : Try.prog.underlying t = some (.slice e)) (hinf : (Try.prog.info? e).map (fun i => (i.zero, i.size, i.bytes)) = some (some z, k, by_)) (hzs : z.cells.size = k) (hk : 0 < k) (hby : by_ ≤ 1000)
    {w U w2 : World} {r g gb : Nat} {q qk : Qs} {a : Option Addr} {n c : Nat} {L cs : List Value} (hS : g < w.heap.size ∧ r < w.heap.size ∧ (q.1 ≠ [] → gb < w.heap.size)) (hO : Ow U w.heap.size e k a n c L) (hB : But (RN r g) w U) (hb2 : But (RN r g) U w2) (hr2 : Ry w2 r g gb qk) (hne : qk.1 ≠ [] → q.1 ≠ [])
    (hl : cs.length = k) (h1 : ∀ u ∈ cs, u.oneCell' = true) (hn : n + 1 ≤ 100000) :
    ∃ a3 c3 w3, (Builtin.append_ #[t, t] t #[.slice a n c, .slice (some ⟨w2.heap.size, 0, none⟩) 1 1]).run Try.prog (w2.alloc (Obj.cells cs.toArray e)) = .ok (.slice a3 (n + 1) c3) w3 ∧ Ow w3 w.heap.size e k a3 (n + 1) c3 (L ++ cs) ∧ Ry w3 r g gb qk ∧ But (RN r g) w w3 ∧ But (Blk a) w2 w3 ∧ ∀ j, Blk a j → w.heap.size ≤ j := by
  have hO2 := hO.but hb2 (fun k hk hk2 => by have := hO.blk k hk; rcases hk2 with rfl | rfl <;> omega)
  have hbw2 := hB.trans hb2
  obtain ⟨a3, c3, w3, hrun3, hO3, hbut3, _⟩ := ow_snoc t e z k by_ ht hinf hzs hk (cs := cs) hO2 hl h1 hbw2.size hn hby
  refine ⟨a3, c3, w3, hrun3, hO3, ?_, hbw2.comp hbut3 (fun k hk => .inr (hO2.blk k hk).1), hbut3, fun j hj => (hO2.blk j hj).1⟩
  exact hr2.but hbut3 (fun hk => by have := hO2.blk _ hk; omega) (fun hk => by have := hO2.blk _ hk; omega) (fun hx hk => by have := hO2.blk _ hk; have := hS.2.2 (hne hx); omega)
def rdC (q : Qs) : Cp × Qs := (cpV q, cpS q)
def lsV (q : Qs) : List Cp := (rdL rdC (nmV q 1 32) (nmS q 1 32)).1
def lsS (q : Qs) : Qs := (rdL rdC (nmV q 1 32) (nmS q 1 32)).2
theorem infoC3 : (Try.prog.info? 65).map (fun i => (i.zero, i.size, i.bytes)) = some (some (.agg #[.int .i64 0, .int .u64 0, .int .u64 0]), 3, 24) := by kernel_rfl
set_option maxRecDepth 100000 in
set_option maxHeartbeats 4000000 in
theorem listr_any (r g gb : Nat) (q : Qs) (w : World) (h : Ry w r g gb q) :
    Calls Try.prog 86 #[.pointer (some ⟨r, 0, none⟩)] w fun x w' => ∃ a n c, x = .returned (.slice a n c) ∧ n ≤ 32 ∧ (lsV q).length = n ∧ Ow w' w.heap.size 65 3 a n c ((lsV q).map encC).flatten ∧ Ry w' r g gb (lsS q) ∧ But (RN r g) w w' := by
  have HS : Hid (g < w.heap.size ∧ r < w.heap.size ∧ (q.1 ≠ [] → gb < w.heap.size)) := ⟨h.rd.gl, World.block_lt_of_cell? _ _ h.c0, fun hR => h.rd.gb hR⟩
  have HC := hid (number_any r g gb q 1 32 w h (by omega))
  have hn := nm_le q 1 32 (by omega)
  have HK := hid capr_any
  unfold lsV lsS
  have HNe : Hid ((nmS q 1 32).1 ≠ [] → q.1 ≠ []) := fun hx => drop_ne (n := intN q.1 1 32) hx
  generalize nmV q 1 32 = n at HC hn ⊢
  generalize nmS q 1 32 = q1 at HC HNe ⊢
  clear h
  go_enter Try.func86, Try.ntmps86
  go_upto_region 3 with (first | (go_at_call 58; refine HC.out.mono ?_; rintro x w1 ⟨rfl, hr1, hb1⟩; have HR1 := hid hr1; have HB1 := hid hb1; clear hr1 hb1))
  go_loopw [3, 6] (fun t i U => ∃ (j : Nat) (a : Option Addr) (c : Nat) (L : List Cp) (qj : Qs), i = .int .i64 (j : Int) ∧ t = .slice a j c ∧ j ≤ n ∧ L.length = j ∧ rdL rdC n q1 = (L ++ (rdL rdC (n - j) qj).1, (rdL rdC (n - j) qj).2) ∧ (qj.1 ≠ [] → q.1 ≠ []) ∧ Ow U w.heap.size 65 3 a j c (L.map encC).flatten ∧ Ry U r g gb qj ∧ But (RN r g) w U) (fun _ i _ => n - ivN i)
  case atStart => exact ⟨0, none, 0, [], q1, rfl, rfl, Nat.zero_le _, rfl, by simp, HNe.out, Ow.nil _ _ _ _, HR1.out, HB1.out⟩
  case round =>
    obtain ⟨j, a, c, L, qj, rfl, rfl, hj, hL, hE, hne, hO, hR, hB⟩ := hrel
    have HE := hid hE
    have HN2 := hid hne
    have HO := hid hO
    have HR := hid hR
    have HB := hid hB
    have HLl := hid hL
    clear hE hne hO hR hB hL
    by_cases hlt : j < n
    · have hd : decide ((j : Int) < (n : Int)) = true := by simp; omega
      have HE2 := hid (rdL_step HE.out hlt)
      have HCp := hid (HK.out r g gb qj wr HR.out)
      have HN3 : Hid ((cpS qj).1 ≠ [] → q.1 ≠ []) := fun hx => HN2.out (drop_ne (n := capN qj.1) hx)
      have HEn : Hid (encC (cpV qj) = [.int .i64 (cpV qj).o, .int .u64 ((cpV qj).h : Int), .int .u64 ((cpV qj).l : Int)]) := rfl
      have HE3 : Hid (rdL rdC n q1 = ((L ++ [cpV qj]) ++ (rdL rdC (n - (j + 1)) (cpS qj)).1, (rdL rdC (n - (j + 1)) (cpS qj)).2)) := HE2.out
      generalize cpV qj = v at HCp HEn HE3
      generalize cpS qj = qk at HCp HN3 HE3
      obtain ⟨vo, vh, vl⟩ := v
      simp only at HCp HEn
      clear HE2 HE
      go_wp2_with (first
        | (go_at_call 84; refine HCp.out.mono ?_; rintro x w2 ⟨rfl, hr2, hb2⟩; obtain ⟨a3, c3, w3, hrun3, hO3, hR3, hB3, _, _⟩ := ow_read 49 65 _ 3 24 Try.underlying49 infoC3 rfl (by omega) (by omega) (cs := [.int .i64 vo, .int .u64 (vh : Int), .int .u64 (vl : Int)]) HS.out HO.out HB.out hb2 hr2 HN3.out rfl (one3 _ _ _) (by omega); have HRUN := hid hrun3; have HO3 := hid hO3; have HR3 := hid hR3; have HB3 := hid hB3; clear hr2 hb2 hrun3 hO3 hR3 hB3)
        | (at_builtin; refine wpList_append_known rfl _ _ 49 rfl _ _ rfl rfl _ w3 HRUN.out ?_))
      exact ⟨⟨j + 1, a3, c3, _, qk, rfl, rfl, by omega, by simp [HLl.out], HE3.out, HN3.out, by rw [List.map_append, List.flatten_append]; simpa [HEn.out] using HO3.out, HR3.out, HB3.out⟩, by simp [ivN]; omega⟩
    · obtain rfl : j = n := by omega
      have e0 : rdL rdC j q1 = (L, qj) := by rw [HE.out, Nat.sub_self]; simp [rdL]
      have HE0 := hid e0
      clear e0
      go_wp2
      go_ret
      rw [HE0.out]
      exact ⟨a, j, c, rfl, by omega, HLl.out, HO.out, HR.out, HB.out⟩
end Go.Proofs.Ythfmmfphnimlnaa
namespace Go.Proofs.Ythfmmfphnimlnaa
open Go.RowKit
set_option linter.unusedVariables false
set_option linter.unusedSimpArgs false
theorem info2 : (Try.prog.info? 60).map (fun i => (i.zero, i.size, i.bytes)) = some (some (.agg #[.int .i64 0, .slice none 0 0]), 2, 32) := by kernel_rfl
theorem info2p : (Try.prog.info? 51).map (fun i => (i.zero, i.size, i.bytes)) = some (some (.agg #[.int .i64 0, .slice none 0 0]), 2, 32) := by kernel_rfl
theorem info5t : (Try.prog.info? 67).map (fun i => (i.zero, i.size, i.bytes)) = some (some (.agg #[.int .i64 0, .int .u64 0, .int .u64 0, .int .i64 0, .int .i64 0]), 5, 40) := by kernel_rfl
theorem one2 (x : Int) (a : Option Addr) (n c : Nat) : ∀ u ∈ ([.int .i64 x, .slice a n c] : List Value), u.oneCell' = true := by
  intro u hu
  simp only [List.mem_cons, List.not_mem_nil, or_false] at hu
  rcases hu with rfl | rfl <;> rfl
theorem one5 (x y z u v : Int) : ∀ k ∈ ([.int .i64 x, .int .u64 y, .int .u64 z, .int .i64 u, .int .i64 v] : List Value), k.oneCell' = true := by
  intro k hk
  simp only [List.mem_cons, List.not_mem_nil, or_false] at hk
  rcases hk with rfl | rfl | rfl | rfl | rfl <;> rfl
def oq1 (q : Qs) : Qs := nmS q 8 MI
def oq2 (q : Qs) : Qs := nmS (oq1 q) 2 4096
def onB (q : Qs) : Nat := nmV (oq1 q) 2 4096
def rdO (q : Qs) : Ob × Qs := (⟨(nmV q 8 MI : Int), (oq2 q).1.take (rwN (oq2 q) (onB q))⟩, rwS (oq2 q) (onB q))
def obV (q : Qs) : List Ob := (rdL rdO (nmV q 2 64) (nmS q 2 64)).1
def obS2 (q : Qs) : Qs := (rdL rdO (nmV q 2 64) (nmS q 2 64)).2
/-- Objects in memory of their own. -/
structure ObO (w : World) (base : Nat) (a : Option Addr) (n c : Nat) (Q : List (Ob × Sl)) : Prop where
  len : Q.length = n
  row : Ow w base 60 2 a n c (Q.map encO).flatten
  each : ∀ p ∈ Q, Own w base p.2.a p.2.n p.2.c p.1.b
theorem ObO.but {S : Nat → Prop} {w w' : World} {base : Nat} {a : Option Addr} {n c : Nat} {Q : List (Ob × Sl)} (h : ObO w base a n c Q) (hb : But S w w') (hS : ∀ k, base ≤ k → k < w.heap.size → ¬ S k) : ObO w' base a n c Q :=
  ⟨h.len, h.row.but hb (fun j hj => hS j (h.row.blk j hj).1 (h.row.blk j hj).2), fun p hp => (h.each p hp).but2 hb (fun k hk => hS k ((h.each p hp).blk k hk) ((h.each p hp).lt k hk))⟩
set_option maxRecDepth 100000 in
set_option maxHeartbeats 4000000 in
theorem objr_any (r g gb : Nat) (q : Qs) (w : World) (h : Ry w r g gb q) (hql : q.1.length ≤ 140737488355328) :
    Calls Try.prog 59 #[.pointer (some ⟨r, 0, none⟩)] w fun x w' => ∃ a n c Q, x = .returned (.slice a n c) ∧ n ≤ 64 ∧ Q.map Prod.fst = obV q ∧ ObO w' w.heap.size a n c Q ∧ Ry w' r g gb (obS2 q) ∧ But (RN r g) w w' := by
  have HS : Hid (g < w.heap.size ∧ r < w.heap.size ∧ (q.1 ≠ [] → gb < w.heap.size)) := ⟨h.rd.gl, World.block_lt_of_cell? _ _ h.c0, fun hR => h.rd.gb hR⟩
  have HC := hid (number_any r g gb q 2 64 w h (by omega))
  have hn := nm_le q 2 64 (by omega)
  have HNu := hid number_any
  have HRo := hid rowr_any
  have HQl := hid hql
  unfold obV obS2
  have HNe : Hid ((nmS q 2 64).1 ≠ [] → q.1 ≠ []) := fun hx => drop_ne (n := intN q.1 2 64) hx
  have HL1 : Hid ((nmS q 2 64).1.length ≤ 140737488355328) := Nat.le_trans (nm_len q 2 64) hql
  generalize nmV q 2 64 = n at HC hn ⊢
  generalize nmS q 2 64 = q1 at HC HNe HL1 ⊢
  clear h hql
  go_enter Try.func59, Try.ntmps59
  go_upto_region 3 with (first | (go_at_call 58; refine HC.out.mono ?_; rintro x w1 ⟨rfl, hr1, hb1⟩; have HR1 := hid hr1; have HB1 := hid hb1; clear hr1 hb1))
  go_loopw [3, 7] (fun t i U => ∃ (j : Nat) (a : Option Addr) (c : Nat) (Q : List (Ob × Sl)) (qj : Qs), i = .int .i64 (j : Int) ∧ t = .slice a j c ∧ j ≤ n ∧ rdL rdO n q1 = (Q.map Prod.fst ++ (rdL rdO (n - j) qj).1, (rdL rdO (n - j) qj).2) ∧ (qj.1 ≠ [] → q.1 ≠ []) ∧ qj.1.length ≤ 140737488355328 ∧ ObO U w.heap.size a j c Q ∧ Ry U r g gb qj ∧ But (RN r g) w U) (fun _ i _ => n - ivN i)
  case atStart => exact ⟨0, none, 0, [], q1, rfl, rfl, Nat.zero_le _, by simp, HNe.out, HL1.out, ⟨rfl, Ow.nil _ _ _ _, fun p hp => (by cases hp)⟩, HR1.out, HB1.out⟩
  case round =>
    obtain ⟨j, a, c, Q, qj, rfl, rfl, hj, hE, hne, hlj, hO, hR, hB⟩ := hrel
    have HE := hid hE
    have HN2 := hid hne
    have HO := hid hO
    have HR := hid hR
    have HB := hid hB
    have HLj := hid hlj
    clear hE hne hO hR hB hlj
    by_cases hlt : j < n
    · have hd : decide ((j : Int) < (n : Int)) = true := by simp; omega
      have HE3 : Hid (rdL rdO n q1 = ((Q.map Prod.fst ++ [(⟨(nmV qj 8 MI : Int), (oq2 qj).1.take (rwN (oq2 qj) (onB qj))⟩ : Ob)]) ++ (rdL rdO (n - (j + 1)) (rwS (oq2 qj) (onB qj))).1, (rdL rdO (n - (j + 1)) (rwS (oq2 qj) (onB qj))).2)) := rdL_step HE.out hlt
      have HC1 := hid (HNu.out r g gb qj 8 4611686018427387904 wr HR.out (by omega))
      have HN3 : Hid ((rwS (oq2 qj) (onB qj)).1 ≠ [] → q.1 ≠ []) := fun hx => HN2.out (drop_ne (n := intN qj.1 8 MI) (drop_ne (n := intN (oq1 qj).1 2 4096) (drop_ne (n := rowN (oq2 qj).1 (onB qj)) hx)))
      have HL2 : Hid ((oq2 qj).1.length ≤ 140737488355328) := Nat.le_trans (nm_len _ _ _) (Nat.le_trans (nm_len _ _ _) HLj.out)
      have HL3 : Hid ((rwS (oq2 qj) (onB qj)).1.length ≤ 140737488355328) := Nat.le_trans (rw_len _ _) HL2.out
      have HC1 : Hid (Calls Try.prog 58 #[.pointer (some ⟨r, 0, none⟩), .int .i64 8, .int .i64 4611686018427387904] wr fun x w' => x = .returned (.int .i64 (nmV qj 8 MI : Int)) ∧ Ry w' r g gb (oq1 qj) ∧ But (RN r g) wr w') := HC1.out
      have HC2 : Hid (∀ U, Ry U r g gb (oq1 qj) → Calls Try.prog 58 #[.pointer (some ⟨r, 0, none⟩), .int .i64 2, .int .i64 4096] U fun x w' => x = .returned (.int .i64 (onB qj : Int)) ∧ Ry w' r g gb (oq2 qj) ∧ But (RN r g) U w') := fun U hU => HNu.out r g gb (oq1 qj) 2 4096 U hU (by omega)
      have HC3 : Hid (∀ U, Ry U r g gb (oq2 qj) → Calls Try.prog 56 #[.pointer (some ⟨r, 0, none⟩), .int .i64 (onB qj : Int)] U fun x w' => ∃ a m c, x = .returned (.slice a m c) ∧ Own w' U.heap.size a m c ((oq2 qj).1.take (rwN (oq2 qj) (onB qj))) ∧ Ry w' r g gb (rwS (oq2 qj) (onB qj)) ∧ But (RN r g) U w') := fun U hU => HRo.out r g gb (oq2 qj) (onB qj) U hU HL2.out
      generalize nmV qj 8 MI = id at HC1 HE3
      generalize (oq2 qj).1.take (rwN (oq2 qj) (onB qj)) = by_ at HC3 HE3
      generalize rwS (oq2 qj) (onB qj) = qk at HC3 HN3 HL3 HE3
      generalize onB qj = nb at HC2 HC3
      generalize oq2 qj = q2 at HC2 HC3
      generalize oq1 qj = q1' at HC1 HC2
      clear HE HL2
      go_upto_region 5 with (first | (go_at_call 58; refine HC1.out.mono ?_; rintro x w2 ⟨rfl, hr2, hb2⟩; have HR2 := hid hr2; have HB2 := hid hb2; clear hr2 hb2))
      go_wp2_with (first
        | (go_at_call 58; refine (HC2.out _ HR2.out).mono ?_; rintro x w3 ⟨rfl, hr3, hb3⟩; have HR3 := hid hr3; have HB3 := hid (HB2.out.trans hb3); clear hr3 hb3)
        | (go_at_call 56; refine (HC3.out _ HR3.out).mono ?_; rintro x w4 ⟨a4, m4, c4, rfl, ho4, hr4, hb4⟩; obtain ⟨a5, c5, w5, hrun5, hO5, hR5, hB5, hbut5, hge⟩ := ow_read 24 60 _ 2 32 Try.underlying24 info2 rfl (by omega) (by omega) (cs := [.int .i64 (id : Int), .slice a4 m4 c4]) HS.out HO.out.row HB.out (HB3.out.trans hb4) hr4 HN3.out rfl (one2 _ _ _ _) (by omega); have HRUN := hid hrun5; have HO4 := hid ho4; have HB4 := hid hb4; have HO5 := hid hO5; have HR5 := hid hR5; have HB5 := hid hB5; have HBu5 := hid hbut5; clear ho4 hr4 hb4 hrun5 hO5 hR5 hB5 hbut5 hge)
        | (at_builtin; refine wpList_append_known rfl _ _ 24 rfl _ _ rfl rfl _ w5 HRUN.out ?_))
      refine ⟨⟨j + 1, a5, c5, Q ++ [(⟨(id : Int), by_⟩, ⟨a4, m4, c4⟩)], qk, rfl, rfl, by omega, by rw [List.map_append]; exact HE3.out, HN3.out, HL3.out, ?_, HR5.out, HB5.out⟩, by simp [ivN]; omega⟩
      have hb34 : But (RN r g) wr w4 := HB3.out.trans HB4.out
      have hO4r : Ow w4 w.heap.size 60 2 a j c (Q.map encO).flatten := HO.out.row.but hb34 (fun k hk hk2 => by have := HO.out.row.blk k hk; have := HS.out; rcases hk2 with rfl | rfl <;> omega)
      refine ⟨by simp [HO.out.len], by rw [List.map_append, List.flatten_append]; simpa [encO] using HO5.out, fun p hp => ?_⟩
      have hap : ∀ {x : Option Addr} {m c' : Nat} {B : List Nat}, Own w4 w.heap.size x m c' B → Own w5 w.heap.size x m c' B := fun hx => hx.but2 HBu5.out (fun k hk hk2 => own_apart hx.row hO4r (by decide) k (Blk.of.2 hk) (Blk.of.2 hk2))
      rcases List.mem_append.1 hp with hp | hp
      · exact hap ((HO.out.each p hp).but2 hb34 (fun k hk hk2 => by have := (HO.out.each p hp).blk k hk; have := HS.out; rcases hk2 with rfl | rfl <;> omega))
      · rw [List.mem_singleton.1 hp]
        exact hap (HO4.out.mono (HB.out.trans HB3.out).size)
    · obtain rfl : j = n := by omega
      have e0 : rdL rdO j q1 = (Q.map Prod.fst, qj) := by rw [HE.out, Nat.sub_self]; simp [rdL]
      have HE0 := hid e0
      clear e0
      go_wp2
      go_ret
      rw [HE0.out]
      exact ⟨a, j, c, Q, rfl, by omega, rfl, HO.out, HR.out, HB.out⟩
end Go.Proofs.Ythfmmfphnimlnaa
namespace Go.Proofs.Ythfmmfphnimlnaa
open Go.RowKit
set_option linter.unusedVariables false
set_option linter.unusedSimpArgs false
def rdP (q : Qs) : Pc × Qs := (⟨(nmV q 2 65535 : Int), lsV (nmS q 2 65535)⟩, lsS (nmS q 2 65535))
def pzV (q : Qs) : List Pc := (rdL rdP (nmV q 2 32) (nmS q 2 32)).1
def pzS (q : Qs) : Qs := (rdL rdP (nmV q 2 32) (nmS q 2 32)).2
/-- Processes in memory of their own. -/
structure PrO (w : World) (base : Nat) (a : Option Addr) (n c : Nat) (Q : List (Pc × Sl)) : Prop where
  len : Q.length = n
  row : Ow w base 51 2 a n c (Q.map encP).flatten
  each : ∀ p ∈ Q, p.2.n ≤ 32 ∧ Ow w base 65 3 p.2.a p.2.n p.2.c (p.1.l.map encC).flatten
theorem PrO.but {S : Nat → Prop} {w w' : World} {base : Nat} {a : Option Addr} {n c : Nat} {Q : List (Pc × Sl)} (h : PrO w base a n c Q) (hb : But S w w') (hS : ∀ k, base ≤ k → k < w.heap.size → ¬ S k) : PrO w' base a n c Q :=
  ⟨h.len, h.row.but hb (fun j hj => hS j (h.row.blk j hj).1 (h.row.blk j hj).2), fun p hp => ⟨(h.each p hp).1, (h.each p hp).2.but hb (fun k hk => hS k ((h.each p hp).2.blk k hk).1 ((h.each p hp).2.blk k hk).2)⟩⟩
theorem Ow.mono {w : World} {base b2 : Nat} {e : TypeId} {k : Nat} {a : Option Addr} {n cap : Nat} {L : List Value} (h : Ow w base e k a n cap L) (hb : b2 ≤ base) : Ow w b2 e k a n cap L := by
  obtain ⟨h1, h2⟩ := h
  refine ⟨h1, ?_⟩
  rcases h2 with h2 | ⟨g, cp, cur, hv, hg, r⟩
  · exact .inl h2
  · exact .inr ⟨g, cp, cur, hv, Nat.le_trans hb hg, r⟩
theorem rdL_ne {α : Type} {f : Qs → α × Qs} (hf : ∀ q : Qs, (f q).2.1 ≠ [] → q.1 ≠ []) : ∀ n (q : Qs), (rdL f n q).2.1 ≠ [] → q.1 ≠ []
  | 0, q, h => h
  | n + 1, q, h => hf q (rdL_ne hf n (f q).2 h)
theorem ls_ne (q : Qs) (h : (lsS q).1 ≠ []) : q.1 ≠ [] := drop_ne (n := intN q.1 1 32) (rdL_ne (f := rdC) (fun q h => drop_ne (n := capN q.1) h) _ _ h)
set_option maxRecDepth 100000 in
set_option maxHeartbeats 4000000 in
theorem procr_any (r g gb : Nat) (q : Qs) (w : World) (h : Ry w r g gb q) :
    Calls Try.prog 61 #[.pointer (some ⟨r, 0, none⟩)] w fun x w' => ∃ a n c Q, x = .returned (.slice a n c) ∧ n ≤ 32 ∧ Q.map Prod.fst = pzV q ∧ PrO w' w.heap.size a n c Q ∧ Ry w' r g gb (pzS q) ∧ But (RN r g) w w' := by
  have HS : Hid (g < w.heap.size ∧ r < w.heap.size ∧ (q.1 ≠ [] → gb < w.heap.size)) := ⟨h.rd.gl, World.block_lt_of_cell? _ _ h.c0, fun hR => h.rd.gb hR⟩
  have HC := hid (number_any r g gb q 2 32 w h (by omega))
  have hn := nm_le q 2 32 (by omega)
  have HTw := hid two_any
  have HLs := hid listr_any
  unfold pzV pzS
  have HNe : Hid ((nmS q 2 32).1 ≠ [] → q.1 ≠ []) := fun hx => drop_ne (n := intN q.1 2 32) hx
  generalize nmV q 2 32 = n at HC hn ⊢
  generalize nmS q 2 32 = q1 at HC HNe ⊢
  clear h
  go_enter Try.func61, Try.ntmps61
  go_upto_region 3 with (first | (go_at_call 58; refine HC.out.mono ?_; rintro x w1 ⟨rfl, hr1, hb1⟩; have HR1 := hid hr1; have HB1 := hid hb1; clear hr1 hb1))
  go_loopw [3, 7] (fun t i U => ∃ (j : Nat) (a : Option Addr) (c : Nat) (Q : List (Pc × Sl)) (qj : Qs), i = .int .i64 (j : Int) ∧ t = .slice a j c ∧ j ≤ n ∧ rdL rdP n q1 = (Q.map Prod.fst ++ (rdL rdP (n - j) qj).1, (rdL rdP (n - j) qj).2) ∧ (qj.1 ≠ [] → q.1 ≠ []) ∧ PrO U w.heap.size a j c Q ∧ Ry U r g gb qj ∧ But (RN r g) w U) (fun _ i _ => n - ivN i)
  case atStart => exact ⟨0, none, 0, [], q1, rfl, rfl, Nat.zero_le _, by simp, HNe.out, ⟨rfl, Ow.nil _ _ _ _, fun p hp => (by cases hp)⟩, HR1.out, HB1.out⟩
  case round =>
    obtain ⟨j, a, c, Q, qj, rfl, rfl, hj, hE, hne, hO, hR, hB⟩ := hrel
    have HE := hid hE
    have HN2 := hid hne
    have HO := hid hO
    have HR := hid hR
    have HB := hid hB
    clear hE hne hO hR hB
    by_cases hlt : j < n
    · have hd : decide ((j : Int) < (n : Int)) = true := by simp; omega
      have HE3 : Hid (rdL rdP n q1 = ((Q.map Prod.fst ++ [(⟨(nmV qj 2 65535 : Int), lsV (nmS qj 2 65535)⟩ : Pc)]) ++ (rdL rdP (n - (j + 1)) (lsS (nmS qj 2 65535))).1, (rdL rdP (n - (j + 1)) (lsS (nmS qj 2 65535))).2)) := rdL_step HE.out hlt
      have HN3 : Hid ((lsS (nmS qj 2 65535)).1 ≠ [] → q.1 ≠ []) := fun hx => HN2.out (drop_ne (n := intN qj.1 2 65535) (ls_ne _ hx))
      have HC1 := hid (HTw.out r g gb qj wr HR.out)
      have HC2 : Hid (∀ U, Ry U r g gb (nmS qj 2 65535) → _) := fun U hU => HLs.out r g gb (nmS qj 2 65535) U hU
      generalize nmV qj 2 65535 = id at HC1 HE3
      generalize lsV (nmS qj 2 65535) = L at HC2 HE3
      generalize lsS (nmS qj 2 65535) = qk at HC2 HN3 HE3
      generalize nmS qj 2 65535 = q2 at HC1 HC2
      clear HE
      go_upto_region 5 with (first | (go_at_call 57; refine HC1.out.mono ?_; rintro x w2 ⟨rfl, hr2, hb2⟩; have HR2 := hid hr2; have HB2 := hid hb2; clear hr2 hb2))
      go_wp2_with (first
        | (go_at_call 86; refine (HC2.out _ HR2.out).mono ?_; rintro x w4 ⟨a4, m4, c4, rfl, hm4, hl4, ho4, hr4, hb4⟩; obtain ⟨a5, c5, w5, hrun5, hO5, hR5, hB5, hbut5, hge⟩ := ow_read 26 51 _ 2 32 Try.underlying26 info2p rfl (by omega) (by omega) (cs := [.int .i64 (id : Int), .slice a4 m4 c4]) HS.out HO.out.row HB.out (HB2.out.trans hb4) hr4 HN3.out rfl (one2 _ _ _ _) (by omega); have HRUN := hid hrun5; have HO4 := hid ho4; have HB4 := hid hb4; have HO5 := hid hO5; have HR5 := hid hR5; have HB5 := hid hB5; have HBu5 := hid hbut5; have HM4 := hid hm4; clear hm4 hl4 ho4 hr4 hb4 hrun5 hO5 hR5 hB5 hbut5 hge)
        | (at_builtin; refine wpList_append_known rfl _ _ 26 rfl _ _ rfl rfl _ w5 HRUN.out ?_))
      refine ⟨⟨j + 1, a5, c5, Q ++ [(⟨(id : Int), L⟩, ⟨a4, m4, c4⟩)], qk, rfl, rfl, by omega, by rw [List.map_append]; exact HE3.out, HN3.out, ?_, HR5.out, HB5.out⟩, by simp [ivN]; omega⟩
      have hb34 : But (RN r g) wr w4 := HB2.out.trans HB4.out
      have hO4r : Ow w4 w.heap.size 51 2 a j c (Q.map encP).flatten := HO.out.row.but hb34 (fun k hk hk2 => by have := HO.out.row.blk k hk; have := HS.out; rcases hk2 with rfl | rfl <;> omega)
      refine ⟨by simp [HO.out.len], by rw [List.map_append, List.flatten_append]; simpa [encP] using HO5.out, fun p hp => ?_⟩
      have hap : ∀ {x : Option Addr} {m c' : Nat} {B : List Value}, Ow w4 w.heap.size 65 3 x m c' B → Ow w5 w.heap.size 65 3 x m c' B := fun hx => hx.but HBu5.out (fun k hk hk2 => own_apart hx hO4r (by decide) k (Blk.of.2 hk) (Blk.of.2 hk2))
      rcases List.mem_append.1 hp with hp | hp
      · exact ⟨(HO.out.each p hp).1, hap ((HO.out.each p hp).2.but hb34 (fun k hk hk2 => by have := (HO.out.each p hp).2.blk k hk; have := HS.out; rcases hk2 with rfl | rfl <;> omega))⟩
      · rw [List.mem_singleton.1 hp]
        exact ⟨HM4.out, hap (HO4.out.mono (HB.out.trans HB2.out).size)⟩
    · obtain rfl : j = n := by omega
      have e0 : rdL rdP j q1 = (Q.map Prod.fst, qj) := by rw [HE.out, Nat.sub_self]; simp [rdL]
      have HE0 := hid e0
      clear e0
      go_wp2
      go_ret
      rw [HE0.out]
      exact ⟨a, j, c, Q, rfl, by omega, rfl, HO.out, HR.out, HB.out⟩
end Go.Proofs.Ythfmmfphnimlnaa
namespace Go.Proofs.Ythfmmfphnimlnaa
open Go.RowKit
set_option linter.unusedVariables false
set_option linter.unusedSimpArgs false
def rdT (q : Qs) : Tk × Qs := (⟨cpV q, (nmV (cpS q) 1 255 : Int), paV (nmS (cpS q) 1 255)⟩, nmS (nmS (cpS q) 1 255) 2 65535)
def tzV (q : Qs) : List Tk := (rdL rdT (nmV q 2 256) (nmS q 2 256)).1
def tzS (q : Qs) : Qs := (rdL rdT (nmV q 2 256) (nmS q 2 256)).2
set_option maxRecDepth 100000 in
set_option maxHeartbeats 4000000 in
theorem tokr_any (r g gb : Nat) (q : Qs) (w : World) (h : Ry w r g gb q) :
    Calls Try.prog 60 #[.pointer (some ⟨r, 0, none⟩)] w fun x w' => ∃ a n c, x = .returned (.slice a n c) ∧ n ≤ 256 ∧ (tzV q).length = n ∧ Ow w' w.heap.size 67 5 a n c ((tzV q).map encT).flatten ∧ Ry w' r g gb (tzS q) ∧ But (RN r g) w w' := by
  have HS : Hid (g < w.heap.size ∧ r < w.heap.size ∧ (q.1 ≠ [] → gb < w.heap.size)) := ⟨h.rd.gl, World.block_lt_of_cell? _ _ h.c0, fun hR => h.rd.gb hR⟩
  have HC := hid (number_any r g gb q 2 256 w h (by omega))
  have hn := nm_le q 2 256 (by omega)
  have HK := hid capr_any
  have HNu := hid number_any
  have HPa := hid parent_any
  unfold tzV tzS
  have HNe : Hid ((nmS q 2 256).1 ≠ [] → q.1 ≠ []) := fun hx => drop_ne (n := intN q.1 2 256) hx
  generalize nmV q 2 256 = n at HC hn ⊢
  generalize nmS q 2 256 = q1 at HC HNe ⊢
  clear h
  go_enter Try.func60, Try.ntmps60
  go_upto_region 3 with (first | (go_at_call 58; refine HC.out.mono ?_; rintro x w1 ⟨rfl, hr1, hb1⟩; have HR1 := hid hr1; have HB1 := hid hb1; clear hr1 hb1))
  go_loopw [3, 8] (fun t i U => ∃ (j : Nat) (a : Option Addr) (c : Nat) (L : List Tk) (qj : Qs), i = .int .i64 (j : Int) ∧ t = .slice a j c ∧ j ≤ n ∧ L.length = j ∧ rdL rdT n q1 = (L ++ (rdL rdT (n - j) qj).1, (rdL rdT (n - j) qj).2) ∧ (qj.1 ≠ [] → q.1 ≠ []) ∧ Ow U w.heap.size 67 5 a j c (L.map encT).flatten ∧ Ry U r g gb qj ∧ But (RN r g) w U) (fun _ i _ => n - ivN i)
  case atStart => exact ⟨0, none, 0, [], q1, rfl, rfl, Nat.zero_le _, rfl, by simp, HNe.out, Ow.nil _ _ _ _, HR1.out, HB1.out⟩
  case round =>
    obtain ⟨j, a, c, L, qj, rfl, rfl, hj, hL, hE, hne, hO, hR, hB⟩ := hrel
    have HE := hid hE
    have HN2 := hid hne
    have HO := hid hO
    have HR := hid hR
    have HB := hid hB
    have HLl := hid hL
    clear hE hne hO hR hB hL
    by_cases hlt : j < n
    · have hd : decide ((j : Int) < (n : Int)) = true := by simp; omega
      have HE3 : Hid (rdL rdT n q1 = ((L ++ [(⟨cpV qj, (nmV (cpS qj) 1 255 : Int), paV (nmS (cpS qj) 1 255)⟩ : Tk)]) ++ (rdL rdT (n - (j + 1)) (nmS (nmS (cpS qj) 1 255) 2 65535)).1, (rdL rdT (n - (j + 1)) (nmS (nmS (cpS qj) 1 255) 2 65535)).2)) := rdL_step HE.out hlt
      have HN3 : Hid ((nmS (nmS (cpS qj) 1 255) 2 65535).1 ≠ [] → q.1 ≠ []) := fun hx => HN2.out (drop_ne (n := capN qj.1) (drop_ne (n := intN (cpS qj).1 1 255) (drop_ne (n := intN (nmS (cpS qj) 1 255).1 2 65535) hx)))
      have HC1 := hid (HK.out r g gb qj wr HR.out)
      have HC2 : Hid (∀ U, Ry U r g gb (cpS qj) → _) := fun U hU => HNu.out r g gb (cpS qj) 1 255 U hU (by omega)
      have HC3 : Hid (∀ U, Ry U r g gb (nmS (cpS qj) 1 255) → _) := fun U hU => HPa.out r g gb (nmS (cpS qj) 1 255) U hU
      generalize nmV (cpS qj) 1 255 = rt at HC2 HE3
      generalize paV (nmS (cpS qj) 1 255) = pa at HC3 HE3
      generalize nmS (nmS (cpS qj) 1 255) 2 65535 = qk at HC3 HN3 HE3
      generalize nmS (cpS qj) 1 255 = q3 at HC2 HC3
      generalize cpV qj = v at HC1 HE3
      generalize cpS qj = q2 at HC1 HC2
      obtain ⟨vo, vh, vl⟩ := v
      simp only at HC1
      clear HE
      go_upto_region 5 with (first | (go_at_call 84; refine HC1.out.mono ?_; rintro x w2 ⟨rfl, hr2, hb2⟩; have HR2 := hid hr2; have HB2 := hid hb2; clear hr2 hb2))
      obtain ⟨V, hV⟩ : ∃ V, V = w2.alloc (Obj.cells #[.int .i64 vo, .int .u64 (vh : Int), .int .u64 (vl : Int)] 65) := ⟨_, rfl⟩
      rw [← hV]
      have HBn : Hid (Below w2.heap.size w2 V) := by rw [hV]; exact below1 _ _
      have HCl : Hid (∀ X Y, But (RN r g) V X → But (Blk a) X Y → Y.cell? ⟨w2.heap.size, 0, none⟩ = some (.int .i64 vo) ∧ Y.cell? ⟨w2.heap.size, 1, none⟩ = some (.int .u64 (vh : Int)) ∧ Y.cell? ⟨w2.heap.size, 2, none⟩ = some (.int .u64 (vl : Int))) := fun X Y hX hY => by
        have hw2 := (HB.out.trans HB2.out).size
        have hn1 : ¬ RN r g w2.heap.size := fun hk => by have := HS.out; rcases hk with hk | hk <;> omega
        have hn2 : ¬ Blk a w2.heap.size := fun hk => by have := HO.out.blk _ hk; have := HB2.out.size; omega
        exact ⟨cell_but hY (cell_but hX (by rw [hV]; simp [go_sem]) hn1) hn2, cell_but hY (cell_but hX (by rw [hV]; simp [go_sem]) hn1) hn2, cell_but hY (cell_but hX (by rw [hV]; simp [go_sem]) hn1) hn2⟩
      have HRV := hid (HR2.out.later HBn.out)
      have HBV : Hid (But (RN r g) wr V) := HB2.out.trans (But.of HBn.out)
      obtain ⟨b5, hb5⟩ : ∃ b5, b5 = w2.heap.size := ⟨_, rfl⟩
      rw [← hb5] at HCl ⊢
      clear hV hb5 HBn HB2
      go_upto_region 6 with (first | (go_at_call 58; refine (HC2.out _ HRV.out).mono ?_; rintro x w3 ⟨rfl, hr3, hb3⟩; have HR3 := hid hr3; have HB3 := hid hb3; clear hr3 hb3))
      have S0 := HCl.out _ _ HB3.out (But.of (Below.refl _ _).drew)
      go_region_held3 (fun X => X.cell? ⟨b5, 0, none⟩ = some (.int .i64 vo) ∧ X.cell? ⟨b5, 1, none⟩ = some (.int .u64 (vh : Int)) ∧ X.cell? ⟨b5, 2, none⟩ = some (.int .u64 (vl : Int))) (first | exact S5 | exact S4a | exact S4 | exact S0) (first
        | (go_at_call 85; refine (HC3.out _ (HR3.out.later (Below.refl _ _).drew)).mono ?_; rintro x w4 ⟨rfl, hr4, hb4⟩; have HB4 := hid ((But.of (S := RN r g) (Below.refl w3.heap.size w3).drew).trans hb4); obtain ⟨a5, c5, w5, hrun5, hO5, hR5, hB5, hbut5, _⟩ := ow_read 25 67 _ 5 40 Try.underlying25 info5t rfl (by omega) (by omega) (cs := [.int .i64 vo, .int .u64 (vh : Int), .int .u64 (vl : Int), .int .i64 (rt : Int), .int .i64 pa]) HS.out HO.out HB.out (HBV.out.trans (HB3.out.trans HB4.out)) hr4 HN3.out rfl (one5 _ _ _ _ _) (by omega); have HRUN := hid hrun5; have HO5 := hid hO5; have HR5 := hid hR5; have HB5 := hid hB5; have S4 := HCl.out _ _ (HB3.out.trans HB4.out) (But.refl _ _); have S4a := HCl.out _ _ ((HB3.out.trans HB4.out).trans (But.of (below1 w4 (Obj.cells #[.int .i64 vo, .int .u64 (vh : Int), .int .u64 (vl : Int), .int .i64 (rt : Int), .int .i64 pa] 67)))) (But.refl _ _); have S5 := HCl.out _ _ (HB3.out.trans HB4.out) hbut5; clear hr4 hb4 hrun5 hO5 hR5 hB5 hbut5)
        | (refine wp_append_known (.tmp 14) (.tmp 20) 25 rfl (.slice a j c) (.slice (some ⟨w4.heap.size, 0, none⟩) 1 1) rfl rfl (.slice a5 (j + 1) c5) w5 HRUN.out ?_))
      go_wp2
      exact ⟨⟨j + 1, a5, c5, _, qk, rfl, rfl, by omega, by simp [HLl.out], HE3.out, HN3.out, by rw [List.map_append, List.flatten_append]; simpa [encT] using HO5.out, HR5.out, HB5.out⟩, by simp [ivN]; omega⟩
    · obtain rfl : j = n := by omega
      have e0 : rdL rdT j q1 = (L, qj) := by rw [HE.out, Nat.sub_self]; simp [rdL]
      have HE0 := hid e0
      clear e0
      go_wp2
      go_ret
      rw [HE0.out]
      exact ⟨a, j, c, rfl, by omega, HLl.out, HO.out, HR.out, HB.out⟩
end Go.Proofs.Ythfmmfphnimlnaa
namespace Go.Proofs.Ythfmmfphnimlnaa
open Go.RowKit
set_option linter.unusedVariables false
set_option linter.unusedSimpArgs false
theorem lvF {w : World} {b o : Nat} {L : List Value} (h : w.rangeAt b o L) (hl : L.length = 10) : (loadVar 23 ⟨b, o, none⟩).run Try.prog w = .ok (.agg L.toArray) w :=
  run_loadVar_mid w b o 23 L _ h Try.underlying23 rfl (by rw [infoF, hl])
theorem lvS {w : World} {b o : Nat} {L : List Value} (h : w.rangeAt b o L) (hl : L.length = 6) : (loadVar 28 ⟨b, o, none⟩).run Try.prog w = .ok (.agg L.toArray) w :=
  run_loadVar_mid w b o 28 L _ h Try.underlying28 rfl (by rw [infoS, hl])
theorem stF {w : World} {b o : Nat} {L : List Value} (h : w.there b o 10) (hl : L.length = 10) (h1 : ∀ v ∈ L, v.oneCell' = true) : (Instr.storeAt 23 (.pointer (some ⟨b, o, none⟩)) (.agg L.toArray)).run Try.prog w = .ok () (w.setCells b o L) :=
  run_storeAt_mid w b o 23 L.toArray (by simpa [hl] using h) (by rw [infoF]; simp [hl]) (all_oneCell_toArray h1)
theorem stS {w : World} {b o : Nat} {L : List Value} (h : w.there b o 6) (hl : L.length = 6) (h1 : ∀ v ∈ L, v.oneCell' = true) : (Instr.storeAt 28 (.pointer (some ⟨b, o, none⟩)) (.agg L.toArray)).run Try.prog w = .ok () (w.setCells b o L) :=
  run_storeAt_mid w b o 28 L.toArray (by simpa [hl] using h) (by rw [infoS]; simp [hl]) (all_oneCell_toArray h1)
theorem cf_one (c : Cf) : ∀ v ∈ c.L, v.oneCell' = true := by
  intro v hv
  simp only [Cf.L, List.mem_cons, List.mem_nil_iff, or_false] at hv
  rcases hv with rfl | rfl | rfl | rfl | rfl | rfl | rfl | rfl | rfl | rfl <;> rfl
def stL (a b c : Sl) (x y z : Int) : List Value := [.slice a.a a.n a.c, .slice b.a b.n b.c, .slice c.a c.n c.c, .int .i64 x, .int .i64 y, .int .i64 z]
theorem st_one (a b c : Sl) (x y z : Int) : ∀ v ∈ stL a b c x y z, v.oneCell' = true := by
  intro v hv
  simp only [stL, List.mem_cons, List.mem_nil_iff, or_false] at hv
  rcases hv with rfl | rfl | rfl | rfl | rfl | rfl <;> rfl
theorem Bx.set1 {w : World} {b : Nat} {L : List Value} (h : Bx w b L) (j : Nat) (v : Value) (hj : j < L.length) : Bx (w.setCell ⟨b, j, none⟩ v) b (L.set j v) := by
  refine ⟨fun i u hu => ?_, fun i hi => ?_⟩
  · rw [Nat.zero_add]
    by_cases e : i = j
    · subst e
      rw [List.getElem?_set_self hj] at hu
      cases hu
      have := h.cell i (List.getElem?_eq_getElem hj)
      exact World.cell?_setCell_same _ _ _ this
    · rw [List.getElem?_set_ne (fun h => e h.symm)] at hu
      rw [World.cell?_setCell_other _ _ _ _ (fun e2 => e (by simpa using (congrArg Addr.off e2).symm))]
      exact h.cell i hu
  · have hi' : i < L.length := by simpa using hi
    obtain ⟨h1, h2⟩ := h.there i hi'
    obtain ⟨u, hu⟩ := Option.isSome_iff_exists.1 h1
    obtain ⟨u', hu'⟩ := cell?_setCell_some (w := w) (p := ⟨b, j, none⟩) (x := v) (q := ⟨b, 0 + i, none⟩) (v := u) hu
    exact ⟨by rw [hu']; rfl, by rw [World.frozen?_setCell]; exact h2⟩
/-- A reader at work, with two boxes: the result's and one's own. -/
structure Tb (w U : World) (r g gb : Nat) (q0 q : Qs) (Z L : List Value) : Prop where
  ry : Ry U r g gb q
  bt : But (RN r g) w U
  b0 : Bx U w.heap.size Z
  b1 : Bx U (w.heap.size + 1) L
  ne : q.1 ≠ [] → q0.1 ≠ []
  sr : r < w.heap.size
  sg : g < w.heap.size
  sb : q0.1 ≠ [] → gb < w.heap.size
  sz : w.heap.size + 2 ≤ U.heap.size
theorem Tb.new {w : World} {r g gb : Nat} {q : Qs} (h : Ry w r g gb q) (Z L : List Value) (t : TypeId) : Tb w ((w.alloc (Obj.cells Z.toArray t)).alloc (Obj.cells L.toArray t)) r g gb q q Z L :=
  ⟨h.later (below2 _ _ _), But.of (below2 _ _ _), (Bx.new w Z t).later (below1 _ _), by have := Bx.new (w.alloc (Obj.cells Z.toArray t)) L t; simp at this; exact this, fun h => h, World.block_lt_of_cell? _ _ h.c0, h.rd.gl, fun hR => h.rd.gb hR, by simp⟩
theorem Tb.went {w U U2 : World} {r g gb : Nat} {q0 q q2 : Qs} {Z L : List Value} (h : Tb w U r g gb q0 q Z L) (hb : But (RN r g) U U2) (hr : Ry U2 r g gb q2) (hn : q2.1 ≠ [] → q.1 ≠ []) : Tb w U2 r g gb q0 q2 Z L :=
  ⟨hr, h.bt.trans hb, h.b0.but hb (fun hk => by have := h.sr; have := h.sg; rcases hk with hk | hk <;> omega), h.b1.but hb (fun hk => by have := h.sr; have := h.sg; rcases hk with hk | hk <;> omega), fun hx => h.ne (hn hx), h.sr, h.sg, h.sb, Nat.le_trans h.sz hb.size⟩
theorem Tb.put {w U : World} {r g gb : Nat} {q0 q : Qs} {Z L : List Value} (h : Tb w U r g gb q0 q Z L) (j : Nat) (v : Value) (hj : j < L.length) : Tb w (U.setCell ⟨w.heap.size + 1, j, none⟩ v) r g gb q0 q Z (L.set j v) := by
  have hb : But (· = w.heap.size + 1) U (U.setCell ⟨w.heap.size + 1, j, none⟩ v) := (But.refl (· = w.heap.size + 1) _).setCell (p := ⟨w.heap.size + 1, j, none⟩) rfl v
  exact ⟨h.ry.but hb (by have := h.sr; omega) (by have := h.sg; omega) (fun hx => by have := h.sb (h.ne hx); omega), h.bt.comp hb (fun i hi => .inr (by omega)), h.b0.but hb (by omega), h.b1.set1 j v hj, h.ne, h.sr, h.sg, h.sb, Nat.le_trans h.sz hb.size⟩
theorem Tb.go {w U U2 : World} {r g gb : Nat} {q0 q q2 : Qs} {Z L : List Value} (h : Tb w U r g gb q0 q Z L) (j : Nat) (v y : Value) (hy : L[j]? = some y) (hb : But (RN r g) U U2) (hr : Ry U2 r g gb q2) (hn : q2.1 ≠ [] → q.1 ≠ []) : (U2.cell? ⟨w.heap.size + 1, j, none⟩ = some y ∧ U2.frozen? ⟨w.heap.size + 1, j, none⟩ = false) ∧ Tb w (U2.setCell ⟨w.heap.size + 1, j, none⟩ v) r g gb q0 q2 Z (L.set j v) := by
  have h2 := h.went hb hr hn
  have hj := (List.getElem?_eq_some_iff.1 hy).1
  exact ⟨⟨h2.b1.cell j hy, by have := (h2.b1.there j hj).2; rwa [Nat.zero_add] at this⟩, h2.put j v hj⟩
theorem Tb.fin {w U : World} {r g gb : Nat} {q0 q : Qs} {Z L : List Value} (h : Tb w U r g gb q0 q Z L) (hl : L.length = Z.length) : Tb w (U.setCells w.heap.size 0 L) r g gb q0 q L L := by
  have hb : But (· = w.heap.size) U (U.setCells w.heap.size 0 L) := setCells_but (S := (· = w.heap.size)) rfl L 0 (But.refl _ _)
  exact ⟨h.ry.but hb (by have := h.sr; omega) (by have := h.sg; omega) (fun hx => by have := h.sb (h.ne hx); omega), h.bt.comp hb (fun i hi => .inr (by omega)), h.b0.set hl, h.b1.but hb (by omega), h.ne, h.sr, h.sg, h.sb, Nat.le_trans h.sz hb.size⟩
def cS (q : Qs) : Nat → Qs
  | 0 => q
  | n + 1 => nmS (cS q n) 2 65535
def cfV (q : Qs) : Cf := ⟨(nmV (cS q 0) 2 65535 : Int), (nmV (cS q 1) 2 65535 : Int), (nmV (cS q 2) 2 65535 : Int), (nmV (cS q 3) 2 65535 : Int), (nmV (cS q 4) 2 65535 : Int), (nmV (cS q 5) 2 65535 : Int), (nmV (cS q 6) 2 65535 : Int), (nmV (cS q 7) 2 65535 : Int), (nmV (cS q 8) 2 65535 : Int), (nmV (cS q 9) 2 65535 : Int)⟩
def cfS (q : Qs) : Qs := cS q 10
theorem cS_two (r g gb : Nat) (q : Qs) (i : Nat) (U : World) (hU : Ry U r g gb (cS q i)) : Calls Try.prog 57 #[.pointer (some ⟨r, 0, none⟩)] U fun x w' => x = .returned (.int .i64 (nmV (cS q i) 2 65535 : Int)) ∧ Ry w' r g gb (cS q (i + 1)) ∧ But (RN r g) U w' := two_any r g gb (cS q i) U hU
theorem cS_ne (q : Qs) (i : Nat) (hx : (cS q (i + 1)).1 ≠ []) : (cS q i).1 ≠ [] := drop_ne (n := intN (cS q i).1 2 65535) hx
set_option maxRecDepth 100000 in
set_option maxHeartbeats 4000000 in
theorem config_any (r g gb : Nat) (q : Qs) (w : World) (h : Ry w r g gb q) :
    Calls Try.prog 31 #[.pointer (some ⟨r, 0, none⟩)] w fun x w' => x = .returned (cfV q).v ∧ Ry w' r g gb (cfS q) ∧ But (RN r g) w w' := by
  obtain ⟨U0, hU0⟩ : ∃ U, U = (w.alloc (Obj.cells #[.int .i64 0, .int .i64 0, .int .i64 0, .int .i64 0, .int .i64 0, .int .i64 0, .int .i64 0, .int .i64 0, .int .i64 0, .int .i64 0] 23)).alloc (Obj.cells #[.int .i64 0, .int .i64 0, .int .i64 0, .int .i64 0, .int .i64 0, .int .i64 0, .int .i64 0, .int .i64 0, .int .i64 0, .int .i64 0] 23) := ⟨_, rfl⟩
  have HT0 : Hid (Tb w U0 r g gb q (cS q 0) [.int .i64 0, .int .i64 0, .int .i64 0, .int .i64 0, .int .i64 0, .int .i64 0, .int .i64 0, .int .i64 0, .int .i64 0, .int .i64 0] [.int .i64 0, .int .i64 0, .int .i64 0, .int .i64 0, .int .i64 0, .int .i64 0, .int .i64 0, .int .i64 0, .int .i64 0, .int .i64 0]) := by rw [hU0]; exact Tb.new h [.int .i64 0, .int .i64 0, .int .i64 0, .int .i64 0, .int .i64 0, .int .i64 0, .int .i64 0, .int .i64 0, .int .i64 0, .int .i64 0] [.int .i64 0, .int .i64 0, .int .i64 0, .int .i64 0, .int .i64 0, .int .i64 0, .int .i64 0, .int .i64 0, .int .i64 0, .int .i64 0] _
  have HU0 := hid hU0
  clear hU0 h
  unfold cfV cfS Cf.v
  simp only
  have HC0 : Hid (∀ U, Ry U r g gb (cS q 0) → Calls Try.prog 57 #[.pointer (some ⟨r, 0, none⟩)] U fun x w' => x = .returned (.int .i64 (nmV (cS q 0) 2 65535 : Int)) ∧ Ry w' r g gb (cS q 1) ∧ But (RN r g) U w') := cS_two r g gb q 0
  have HN0 : Hid ((cS q 1).1 ≠ [] → (cS q 0).1 ≠ []) := cS_ne q 0
  have HC1 : Hid (∀ U, Ry U r g gb (cS q 1) → Calls Try.prog 57 #[.pointer (some ⟨r, 0, none⟩)] U fun x w' => x = .returned (.int .i64 (nmV (cS q 1) 2 65535 : Int)) ∧ Ry w' r g gb (cS q 2) ∧ But (RN r g) U w') := cS_two r g gb q 1
  have HN1 : Hid ((cS q 2).1 ≠ [] → (cS q 1).1 ≠ []) := cS_ne q 1
  have HC2 : Hid (∀ U, Ry U r g gb (cS q 2) → Calls Try.prog 57 #[.pointer (some ⟨r, 0, none⟩)] U fun x w' => x = .returned (.int .i64 (nmV (cS q 2) 2 65535 : Int)) ∧ Ry w' r g gb (cS q 3) ∧ But (RN r g) U w') := cS_two r g gb q 2
  have HN2 : Hid ((cS q 3).1 ≠ [] → (cS q 2).1 ≠ []) := cS_ne q 2
  have HC3 : Hid (∀ U, Ry U r g gb (cS q 3) → Calls Try.prog 57 #[.pointer (some ⟨r, 0, none⟩)] U fun x w' => x = .returned (.int .i64 (nmV (cS q 3) 2 65535 : Int)) ∧ Ry w' r g gb (cS q 4) ∧ But (RN r g) U w') := cS_two r g gb q 3
  have HN3 : Hid ((cS q 4).1 ≠ [] → (cS q 3).1 ≠ []) := cS_ne q 3
  have HC4 : Hid (∀ U, Ry U r g gb (cS q 4) → Calls Try.prog 57 #[.pointer (some ⟨r, 0, none⟩)] U fun x w' => x = .returned (.int .i64 (nmV (cS q 4) 2 65535 : Int)) ∧ Ry w' r g gb (cS q 5) ∧ But (RN r g) U w') := cS_two r g gb q 4
  have HN4 : Hid ((cS q 5).1 ≠ [] → (cS q 4).1 ≠ []) := cS_ne q 4
  have HC5 : Hid (∀ U, Ry U r g gb (cS q 5) → Calls Try.prog 57 #[.pointer (some ⟨r, 0, none⟩)] U fun x w' => x = .returned (.int .i64 (nmV (cS q 5) 2 65535 : Int)) ∧ Ry w' r g gb (cS q 6) ∧ But (RN r g) U w') := cS_two r g gb q 5
  have HN5 : Hid ((cS q 6).1 ≠ [] → (cS q 5).1 ≠ []) := cS_ne q 5
  have HC6 : Hid (∀ U, Ry U r g gb (cS q 6) → Calls Try.prog 57 #[.pointer (some ⟨r, 0, none⟩)] U fun x w' => x = .returned (.int .i64 (nmV (cS q 6) 2 65535 : Int)) ∧ Ry w' r g gb (cS q 7) ∧ But (RN r g) U w') := cS_two r g gb q 6
  have HN6 : Hid ((cS q 7).1 ≠ [] → (cS q 6).1 ≠ []) := cS_ne q 6
  have HC7 : Hid (∀ U, Ry U r g gb (cS q 7) → Calls Try.prog 57 #[.pointer (some ⟨r, 0, none⟩)] U fun x w' => x = .returned (.int .i64 (nmV (cS q 7) 2 65535 : Int)) ∧ Ry w' r g gb (cS q 8) ∧ But (RN r g) U w') := cS_two r g gb q 7
  have HN7 : Hid ((cS q 8).1 ≠ [] → (cS q 7).1 ≠ []) := cS_ne q 7
  have HC8 : Hid (∀ U, Ry U r g gb (cS q 8) → Calls Try.prog 57 #[.pointer (some ⟨r, 0, none⟩)] U fun x w' => x = .returned (.int .i64 (nmV (cS q 8) 2 65535 : Int)) ∧ Ry w' r g gb (cS q 9) ∧ But (RN r g) U w') := cS_two r g gb q 8
  have HN8 : Hid ((cS q 9).1 ≠ [] → (cS q 8).1 ≠ []) := cS_ne q 8
  have HC9 : Hid (∀ U, Ry U r g gb (cS q 9) → Calls Try.prog 57 #[.pointer (some ⟨r, 0, none⟩)] U fun x w' => x = .returned (.int .i64 (nmV (cS q 9) 2 65535 : Int)) ∧ Ry w' r g gb (cS q 10) ∧ But (RN r g) U w') := cS_two r g gb q 9
  have HN9 : Hid ((cS q 10).1 ≠ [] → (cS q 9).1 ≠ []) := cS_ne q 9
  generalize nmV (cS q 0) 2 65535 = x0 at HC0 ⊢
  generalize nmV (cS q 1) 2 65535 = x1 at HC1 ⊢
  generalize nmV (cS q 2) 2 65535 = x2 at HC2 ⊢
  generalize nmV (cS q 3) 2 65535 = x3 at HC3 ⊢
  generalize nmV (cS q 4) 2 65535 = x4 at HC4 ⊢
  generalize nmV (cS q 5) 2 65535 = x5 at HC5 ⊢
  generalize nmV (cS q 6) 2 65535 = x6 at HC6 ⊢
  generalize nmV (cS q 7) 2 65535 = x7 at HC7 ⊢
  generalize nmV (cS q 8) 2 65535 = x8 at HC8 ⊢
  generalize nmV (cS q 9) 2 65535 = x9 at HC9 ⊢
  generalize cS q 10 = q10 at *
  generalize cS q 9 = q9 at *
  generalize cS q 8 = q8 at *
  generalize cS q 7 = q7 at *
  generalize cS q 6 = q6 at *
  generalize cS q 5 = q5 at *
  generalize cS q 4 = q4 at *
  generalize cS q 3 = q3 at *
  generalize cS q 2 = q2 at *
  generalize cS q 1 = q1 at *
  go_enter Try.func31, Try.ntmps31
  go_upto_region 2 with fail
  rw [← HU0.out]
  go_upto_region 3 with (first | (go_at_call 57; refine (HC0.out _ HT0.out.ry).mono ?_; rintro x u0 ⟨rfl, hr, hb⟩; obtain ⟨⟨z0, f0⟩, ht⟩ := HT0.out.go 0 (.int .i64 (x0 : Int)) (.int .i64 0) rfl hb hr HN0.out; have HT1 : Hid (Tb w (u0.setCell ⟨w.heap.size + 1, 0, none⟩ (.int .i64 (x0 : Int))) r g gb q q1 [.int .i64 0, .int .i64 0, .int .i64 0, .int .i64 0, .int .i64 0, .int .i64 0, .int .i64 0, .int .i64 0, .int .i64 0, .int .i64 0] [.int .i64 (x0 : Int), .int .i64 0, .int .i64 0, .int .i64 0, .int .i64 0, .int .i64 0, .int .i64 0, .int .i64 0, .int .i64 0, .int .i64 0]) := ht; clear hr hb ht))
  obtain ⟨U1, hU⟩ : ∃ U, U = u0.setCell ⟨w.heap.size + 1, 0, none⟩ (.int .i64 (x0 : Int)) := ⟨_, rfl⟩
  rw [← hU] at HT1 ⊢
  clear z0 f0 hU HT0 HC0 HN0
  go_upto_region 4 with (first | (go_at_call 57; refine (HC1.out _ HT1.out.ry).mono ?_; rintro x u1 ⟨rfl, hr, hb⟩; obtain ⟨⟨z1, f1⟩, ht⟩ := HT1.out.go 1 (.int .i64 (x1 : Int)) (.int .i64 0) rfl hb hr HN1.out; have HT2 : Hid (Tb w (u1.setCell ⟨w.heap.size + 1, 1, none⟩ (.int .i64 (x1 : Int))) r g gb q q2 [.int .i64 0, .int .i64 0, .int .i64 0, .int .i64 0, .int .i64 0, .int .i64 0, .int .i64 0, .int .i64 0, .int .i64 0, .int .i64 0] [.int .i64 (x0 : Int), .int .i64 (x1 : Int), .int .i64 0, .int .i64 0, .int .i64 0, .int .i64 0, .int .i64 0, .int .i64 0, .int .i64 0, .int .i64 0]) := ht; clear hr hb ht))
  obtain ⟨U2, hU⟩ : ∃ U, U = u1.setCell ⟨w.heap.size + 1, 1, none⟩ (.int .i64 (x1 : Int)) := ⟨_, rfl⟩
  rw [← hU] at HT2 ⊢
  clear z1 f1 hU HT1 HC1 HN1
  go_upto_region 5 with (first | (go_at_call 57; refine (HC2.out _ HT2.out.ry).mono ?_; rintro x u2 ⟨rfl, hr, hb⟩; obtain ⟨⟨z2, f2⟩, ht⟩ := HT2.out.go 2 (.int .i64 (x2 : Int)) (.int .i64 0) rfl hb hr HN2.out; have HT3 : Hid (Tb w (u2.setCell ⟨w.heap.size + 1, 2, none⟩ (.int .i64 (x2 : Int))) r g gb q q3 [.int .i64 0, .int .i64 0, .int .i64 0, .int .i64 0, .int .i64 0, .int .i64 0, .int .i64 0, .int .i64 0, .int .i64 0, .int .i64 0] [.int .i64 (x0 : Int), .int .i64 (x1 : Int), .int .i64 (x2 : Int), .int .i64 0, .int .i64 0, .int .i64 0, .int .i64 0, .int .i64 0, .int .i64 0, .int .i64 0]) := ht; clear hr hb ht))
  obtain ⟨U3, hU⟩ : ∃ U, U = u2.setCell ⟨w.heap.size + 1, 2, none⟩ (.int .i64 (x2 : Int)) := ⟨_, rfl⟩
  rw [← hU] at HT3 ⊢
  clear z2 f2 hU HT2 HC2 HN2
  go_upto_region 6 with (first | (go_at_call 57; refine (HC3.out _ HT3.out.ry).mono ?_; rintro x u3 ⟨rfl, hr, hb⟩; obtain ⟨⟨z3, f3⟩, ht⟩ := HT3.out.go 3 (.int .i64 (x3 : Int)) (.int .i64 0) rfl hb hr HN3.out; have HT4 : Hid (Tb w (u3.setCell ⟨w.heap.size + 1, 3, none⟩ (.int .i64 (x3 : Int))) r g gb q q4 [.int .i64 0, .int .i64 0, .int .i64 0, .int .i64 0, .int .i64 0, .int .i64 0, .int .i64 0, .int .i64 0, .int .i64 0, .int .i64 0] [.int .i64 (x0 : Int), .int .i64 (x1 : Int), .int .i64 (x2 : Int), .int .i64 (x3 : Int), .int .i64 0, .int .i64 0, .int .i64 0, .int .i64 0, .int .i64 0, .int .i64 0]) := ht; clear hr hb ht))
  obtain ⟨U4, hU⟩ : ∃ U, U = u3.setCell ⟨w.heap.size + 1, 3, none⟩ (.int .i64 (x3 : Int)) := ⟨_, rfl⟩
  rw [← hU] at HT4 ⊢
  clear z3 f3 hU HT3 HC3 HN3
  go_upto_region 7 with (first | (go_at_call 57; refine (HC4.out _ HT4.out.ry).mono ?_; rintro x u4 ⟨rfl, hr, hb⟩; obtain ⟨⟨z4, f4⟩, ht⟩ := HT4.out.go 4 (.int .i64 (x4 : Int)) (.int .i64 0) rfl hb hr HN4.out; have HT5 : Hid (Tb w (u4.setCell ⟨w.heap.size + 1, 4, none⟩ (.int .i64 (x4 : Int))) r g gb q q5 [.int .i64 0, .int .i64 0, .int .i64 0, .int .i64 0, .int .i64 0, .int .i64 0, .int .i64 0, .int .i64 0, .int .i64 0, .int .i64 0] [.int .i64 (x0 : Int), .int .i64 (x1 : Int), .int .i64 (x2 : Int), .int .i64 (x3 : Int), .int .i64 (x4 : Int), .int .i64 0, .int .i64 0, .int .i64 0, .int .i64 0, .int .i64 0]) := ht; clear hr hb ht))
  obtain ⟨U5, hU⟩ : ∃ U, U = u4.setCell ⟨w.heap.size + 1, 4, none⟩ (.int .i64 (x4 : Int)) := ⟨_, rfl⟩
  rw [← hU] at HT5 ⊢
  clear z4 f4 hU HT4 HC4 HN4
  go_upto_region 8 with (first | (go_at_call 57; refine (HC5.out _ HT5.out.ry).mono ?_; rintro x u5 ⟨rfl, hr, hb⟩; obtain ⟨⟨z5, f5⟩, ht⟩ := HT5.out.go 5 (.int .i64 (x5 : Int)) (.int .i64 0) rfl hb hr HN5.out; have HT6 : Hid (Tb w (u5.setCell ⟨w.heap.size + 1, 5, none⟩ (.int .i64 (x5 : Int))) r g gb q q6 [.int .i64 0, .int .i64 0, .int .i64 0, .int .i64 0, .int .i64 0, .int .i64 0, .int .i64 0, .int .i64 0, .int .i64 0, .int .i64 0] [.int .i64 (x0 : Int), .int .i64 (x1 : Int), .int .i64 (x2 : Int), .int .i64 (x3 : Int), .int .i64 (x4 : Int), .int .i64 (x5 : Int), .int .i64 0, .int .i64 0, .int .i64 0, .int .i64 0]) := ht; clear hr hb ht))
  obtain ⟨U6, hU⟩ : ∃ U, U = u5.setCell ⟨w.heap.size + 1, 5, none⟩ (.int .i64 (x5 : Int)) := ⟨_, rfl⟩
  rw [← hU] at HT6 ⊢
  clear z5 f5 hU HT5 HC5 HN5
  go_upto_region 9 with (first | (go_at_call 57; refine (HC6.out _ HT6.out.ry).mono ?_; rintro x u6 ⟨rfl, hr, hb⟩; obtain ⟨⟨z6, f6⟩, ht⟩ := HT6.out.go 6 (.int .i64 (x6 : Int)) (.int .i64 0) rfl hb hr HN6.out; have HT7 : Hid (Tb w (u6.setCell ⟨w.heap.size + 1, 6, none⟩ (.int .i64 (x6 : Int))) r g gb q q7 [.int .i64 0, .int .i64 0, .int .i64 0, .int .i64 0, .int .i64 0, .int .i64 0, .int .i64 0, .int .i64 0, .int .i64 0, .int .i64 0] [.int .i64 (x0 : Int), .int .i64 (x1 : Int), .int .i64 (x2 : Int), .int .i64 (x3 : Int), .int .i64 (x4 : Int), .int .i64 (x5 : Int), .int .i64 (x6 : Int), .int .i64 0, .int .i64 0, .int .i64 0]) := ht; clear hr hb ht))
  obtain ⟨U7, hU⟩ : ∃ U, U = u6.setCell ⟨w.heap.size + 1, 6, none⟩ (.int .i64 (x6 : Int)) := ⟨_, rfl⟩
  rw [← hU] at HT7 ⊢
  clear z6 f6 hU HT6 HC6 HN6
  go_upto_region 10 with (first | (go_at_call 57; refine (HC7.out _ HT7.out.ry).mono ?_; rintro x u7 ⟨rfl, hr, hb⟩; obtain ⟨⟨z7, f7⟩, ht⟩ := HT7.out.go 7 (.int .i64 (x7 : Int)) (.int .i64 0) rfl hb hr HN7.out; have HT8 : Hid (Tb w (u7.setCell ⟨w.heap.size + 1, 7, none⟩ (.int .i64 (x7 : Int))) r g gb q q8 [.int .i64 0, .int .i64 0, .int .i64 0, .int .i64 0, .int .i64 0, .int .i64 0, .int .i64 0, .int .i64 0, .int .i64 0, .int .i64 0] [.int .i64 (x0 : Int), .int .i64 (x1 : Int), .int .i64 (x2 : Int), .int .i64 (x3 : Int), .int .i64 (x4 : Int), .int .i64 (x5 : Int), .int .i64 (x6 : Int), .int .i64 (x7 : Int), .int .i64 0, .int .i64 0]) := ht; clear hr hb ht))
  obtain ⟨U8, hU⟩ : ∃ U, U = u7.setCell ⟨w.heap.size + 1, 7, none⟩ (.int .i64 (x7 : Int)) := ⟨_, rfl⟩
  rw [← hU] at HT8 ⊢
  clear z7 f7 hU HT7 HC7 HN7
  go_upto_region 11 with (first | (go_at_call 57; refine (HC8.out _ HT8.out.ry).mono ?_; rintro x u8 ⟨rfl, hr, hb⟩; obtain ⟨⟨z8, f8⟩, ht⟩ := HT8.out.go 8 (.int .i64 (x8 : Int)) (.int .i64 0) rfl hb hr HN8.out; have HT9 : Hid (Tb w (u8.setCell ⟨w.heap.size + 1, 8, none⟩ (.int .i64 (x8 : Int))) r g gb q q9 [.int .i64 0, .int .i64 0, .int .i64 0, .int .i64 0, .int .i64 0, .int .i64 0, .int .i64 0, .int .i64 0, .int .i64 0, .int .i64 0] [.int .i64 (x0 : Int), .int .i64 (x1 : Int), .int .i64 (x2 : Int), .int .i64 (x3 : Int), .int .i64 (x4 : Int), .int .i64 (x5 : Int), .int .i64 (x6 : Int), .int .i64 (x7 : Int), .int .i64 (x8 : Int), .int .i64 0]) := ht; clear hr hb ht))
  obtain ⟨U9, hU⟩ : ∃ U, U = u8.setCell ⟨w.heap.size + 1, 8, none⟩ (.int .i64 (x8 : Int)) := ⟨_, rfl⟩
  rw [← hU] at HT9 ⊢
  clear z8 f8 hU HT8 HC8 HN8
  go_upto_region 12 with (first | (go_at_call 57; refine (HC9.out _ HT9.out.ry).mono ?_; rintro x u9 ⟨rfl, hr, hb⟩; obtain ⟨⟨z9, f9⟩, ht⟩ := HT9.out.go 9 (.int .i64 (x9 : Int)) (.int .i64 0) rfl hb hr HN9.out; have HT10 : Hid (Tb w (u9.setCell ⟨w.heap.size + 1, 9, none⟩ (.int .i64 (x9 : Int))) r g gb q q10 [.int .i64 0, .int .i64 0, .int .i64 0, .int .i64 0, .int .i64 0, .int .i64 0, .int .i64 0, .int .i64 0, .int .i64 0, .int .i64 0] [.int .i64 (x0 : Int), .int .i64 (x1 : Int), .int .i64 (x2 : Int), .int .i64 (x3 : Int), .int .i64 (x4 : Int), .int .i64 (x5 : Int), .int .i64 (x6 : Int), .int .i64 (x7 : Int), .int .i64 (x8 : Int), .int .i64 (x9 : Int)]) := ht; clear hr hb ht))
  obtain ⟨U10, hU⟩ : ∃ U, U = u9.setCell ⟨w.heap.size + 1, 9, none⟩ (.int .i64 (x9 : Int)) := ⟨_, rfl⟩
  rw [← hU] at HT10 ⊢
  clear z9 f9 hU HT9 HC9 HN9
  have hld : (Instr.loadAt 23 (.pointer (some ⟨w.heap.size + 1, 0, none⟩))).run Try.prog U10 = .ok (.agg #[.int .i64 (x0 : Int), .int .i64 (x1 : Int), .int .i64 (x2 : Int), .int .i64 (x3 : Int), .int .i64 (x4 : Int), .int .i64 (x5 : Int), .int .i64 (x6 : Int), .int .i64 (x7 : Int), .int .i64 (x8 : Int), .int .i64 (x9 : Int)]) U10 := ldF HT10.out.b1.range rfl
  have hst : (Instr.storeAt 23 (.pointer (some ⟨w.heap.size, 0, none⟩)) (.agg #[.int .i64 (x0 : Int), .int .i64 (x1 : Int), .int .i64 (x2 : Int), .int .i64 (x3 : Int), .int .i64 (x4 : Int), .int .i64 (x5 : Int), .int .i64 (x6 : Int), .int .i64 (x7 : Int), .int .i64 (x8 : Int), .int .i64 (x9 : Int)])).run Try.prog U10 = .ok () (U10.setCells w.heap.size 0 [.int .i64 (x0 : Int), .int .i64 (x1 : Int), .int .i64 (x2 : Int), .int .i64 (x3 : Int), .int .i64 (x4 : Int), .int .i64 (x5 : Int), .int .i64 (x6 : Int), .int .i64 (x7 : Int), .int .i64 (x8 : Int), .int .i64 (x9 : Int)]) := stF HT10.out.b0.there rfl (cf_one ⟨(x0 : Int), (x1 : Int), (x2 : Int), (x3 : Int), (x4 : Int), (x5 : Int), (x6 : Int), (x7 : Int), (x8 : Int), (x9 : Int)⟩)
  have hf := HT10.out.fin rfl
  have HLV : Hid ((loadVar 23 ⟨w.heap.size, 0, none⟩).run Try.prog (U10.setCells w.heap.size 0 [.int .i64 (x0 : Int), .int .i64 (x1 : Int), .int .i64 (x2 : Int), .int .i64 (x3 : Int), .int .i64 (x4 : Int), .int .i64 (x5 : Int), .int .i64 (x6 : Int), .int .i64 (x7 : Int), .int .i64 (x8 : Int), .int .i64 (x9 : Int)]) = .ok (.agg #[.int .i64 (x0 : Int), .int .i64 (x1 : Int), .int .i64 (x2 : Int), .int .i64 (x3 : Int), .int .i64 (x4 : Int), .int .i64 (x5 : Int), .int .i64 (x6 : Int), .int .i64 (x7 : Int), .int .i64 (x8 : Int), .int .i64 (x9 : Int)]) (U10.setCells w.heap.size 0 [.int .i64 (x0 : Int), .int .i64 (x1 : Int), .int .i64 (x2 : Int), .int .i64 (x3 : Int), .int .i64 (x4 : Int), .int .i64 (x5 : Int), .int .i64 (x6 : Int), .int .i64 (x7 : Int), .int .i64 (x8 : Int), .int .i64 (x9 : Int)])) := lvF hf.b0.range rfl
  have HF := hid hf
  have HLD := hid hld
  have HST := hid hst
  obtain ⟨UF, hUF⟩ : ∃ U, U = U10.setCells w.heap.size 0 [.int .i64 (x0 : Int), .int .i64 (x1 : Int), .int .i64 (x2 : Int), .int .i64 (x3 : Int), .int .i64 (x4 : Int), .int .i64 (x5 : Int), .int .i64 (x6 : Int), .int .i64 (x7 : Int), .int .i64 (x8 : Int), .int .i64 (x9 : Int)] := ⟨_, rfl⟩
  rw [← hUF] at HLV HF HST
  clear hld hst hf hUF
  go_wp2_with (first | ((with_reducible refine ld_arm HLD.out ?_ ?_); (· rfl)) | ((with_reducible refine st_arm HST.out ?_ ?_ ?_); (· rfl); (· rfl)))
  have hlv := HLV.out
  exact bodyPost_ret (v := .agg #[.int .i64 (x0 : Int), .int .i64 (x1 : Int), .int .i64 (x2 : Int), .int .i64 (x3 : Int), .int .i64 (x4 : Int), .int .i64 (x5 : Int), .int .i64 (x6 : Int), .int .i64 (x7 : Int), .int .i64 (x8 : Int), .int .i64 (x9 : Int)]) (by simp [results, Try.results31, asAddr, Act.put, hlv]) rfl ⟨rfl, HF.out.ry, HF.out.bt⟩
end Go.Proofs.Ythfmmfphnimlnaa
namespace Go.Proofs.Ythfmmfphnimlnaa
open Go.RowKit
set_option linter.unusedVariables false
set_option linter.unusedSimpArgs false
theorem Own.mono' {w : World} {base b2 : Nat} {a : Option Addr} {n c : Nat} {L : List Nat} (h : Own w base a n c L) (hb : b2 ≤ base) : Own w b2 a n c L := h.mono hb
theorem ObO.mono {w : World} {base b2 : Nat} {a : Option Addr} {n c : Nat} {Q : List (Ob × Sl)} (h : ObO w base a n c Q) (hb : b2 ≤ base) : ObO w b2 a n c Q := ⟨h.len, h.row.mono hb, fun p hp => (h.each p hp).mono hb⟩
theorem PrO.mono {w : World} {base b2 : Nat} {a : Option Addr} {n c : Nat} {Q : List (Pc × Sl)} (h : PrO w base a n c Q) (hb : b2 ≤ base) : PrO w b2 a n c Q := ⟨h.len, h.row.mono hb, fun p hp => ⟨(h.each p hp).1, (h.each p hp).2.mono hb⟩⟩
theorem TkO.but {S : Nat → Prop} {w w' : World} {base : Nat} {e : TypeId} {k : Nat} {a : Option Addr} {n c : Nat} {L : List Value} (h : Ow w base e k a n c L) (hb : But S w w') (hS : ∀ k, base ≤ k → k < w.heap.size → ¬ S k) : Ow w' base e k a n c L := h.but hb (fun j hj => hS j (h.blk j hj).1 (h.blk j hj).2)
def s1 (q : Qs) : Qs := nmS q 8 4611686018427387905
def s2 (q : Qs) : Qs := nmS (s1 q) 4 65536
def s3 (q : Qs) : Qs := nmS (s2 q) 2 65535
def sV (q : Qs) : St := ⟨obV (s3 q), tzV (obS2 (s3 q)), pzV (tzS (obS2 (s3 q))), (nmV q 8 4611686018427387905 : Int), (nmV (s1 q) 4 65536 : Int), (nmV (s2 q) 2 65535 : Int)⟩
def sS (q : Qs) : Qs := pzS (tzS (obS2 (s3 q)))
theorem ob_ne (q : Qs) (h : (obS2 q).1 ≠ []) : q.1 ≠ [] := drop_ne (n := intN q.1 2 64) (rdL_ne (f := rdO) (fun q h => drop_ne (n := intN q.1 8 MI) (drop_ne (n := intN (oq1 q).1 2 4096) (drop_ne (n := rowN (oq2 q).1 (onB q)) h))) _ _ h)
theorem tz_ne (q : Qs) (h : (tzS q).1 ≠ []) : q.1 ≠ [] := drop_ne (n := intN q.1 2 256) (rdL_ne (f := rdT) (fun q h => drop_ne (n := capN q.1) (drop_ne (n := intN (cpS q).1 1 255) (drop_ne (n := intN (nmS (cpS q) 1 255).1 2 65535) h))) _ _ h)
theorem pz_ne (q : Qs) (h : (pzS q).1 ≠ []) : q.1 ≠ [] := drop_ne (n := intN q.1 2 32) (rdL_ne (f := rdP) (fun q h => drop_ne (n := intN q.1 2 65535) (ls_ne _ h)) _ _ h)
theorem s_len (q : Qs) : (s3 q).1.length ≤ q.1.length := Nat.le_trans (nm_len _ _ _) (Nat.le_trans (nm_len _ _ _) (nm_len _ _ _))
set_option maxRecDepth 100000 in
set_option maxHeartbeats 4000000 in
theorem state_any (r g gb : Nat) (q : Qs) (w : World) (h : Ry w r g gb q) (hql : q.1.length ≤ 140737488355328) :
    Calls Try.prog 32 #[.pointer (some ⟨r, 0, none⟩)] w fun x w' => ∃ a b c Q R, x = .returned (stV a b c (sV q).nx (sV q).px (sV q).ta) ∧ a.n ≤ 64 ∧ b.n ≤ 256 ∧ c.n ≤ 32 ∧ Q.map Prod.fst = (sV q).O ∧ R.map Prod.fst = (sV q).P ∧ (sV q).T.length = b.n ∧ ObO w' w.heap.size a.a a.n a.c Q ∧ Ow w' w.heap.size 67 5 b.a b.n b.c ((sV q).T.map encT).flatten ∧ PrO w' w.heap.size c.a c.n c.c R ∧ Ry w' r g gb (sS q) ∧ But (RN r g) w w' := by
  obtain ⟨U0, hU0⟩ : ∃ U, U = (w.alloc (Obj.cells #[.slice none 0 0, .slice none 0 0, .slice none 0 0, .int .i64 0, .int .i64 0, .int .i64 0] 28)).alloc (Obj.cells #[.slice none 0 0, .slice none 0 0, .slice none 0 0, .int .i64 0, .int .i64 0, .int .i64 0] 28) := ⟨_, rfl⟩
  have HT0 : Hid (Tb w U0 r g gb q q [.slice none 0 0, .slice none 0 0, .slice none 0 0, .int .i64 0, .int .i64 0, .int .i64 0] [.slice none 0 0, .slice none 0 0, .slice none 0 0, .int .i64 0, .int .i64 0, .int .i64 0]) := by rw [hU0]; exact Tb.new h [.slice none 0 0, .slice none 0 0, .slice none 0 0, .int .i64 0, .int .i64 0, .int .i64 0] [.slice none 0 0, .slice none 0 0, .slice none 0 0, .int .i64 0, .int .i64 0, .int .i64 0] _
  have HU0 := hid hU0
  clear hU0 h
  unfold sV sS
  simp only
  have HC0 : Hid (∀ U, Ry U r g gb q → Calls Try.prog 58 #[.pointer (some ⟨r, 0, none⟩), .int .i64 8, .int .i64 4611686018427387905] U fun x w' => x = .returned (.int .i64 (nmV q 8 4611686018427387905 : Int)) ∧ Ry w' r g gb (s1 q) ∧ But (RN r g) U w') := fun U hU => number_any r g gb q 8 4611686018427387905 U hU (by omega)
  have HC1 : Hid (∀ U, Ry U r g gb (s1 q) → Calls Try.prog 58 #[.pointer (some ⟨r, 0, none⟩), .int .i64 4, .int .i64 65536] U fun x w' => x = .returned (.int .i64 (nmV (s1 q) 4 65536 : Int)) ∧ Ry w' r g gb (s2 q) ∧ But (RN r g) U w') := fun U hU => number_any r g gb (s1 q) 4 65536 U hU (by omega)
  have HC2 : Hid (∀ U, Ry U r g gb (s2 q) → Calls Try.prog 57 #[.pointer (some ⟨r, 0, none⟩)] U fun x w' => x = .returned (.int .i64 (nmV (s2 q) 2 65535 : Int)) ∧ Ry w' r g gb (s3 q) ∧ But (RN r g) U w') := fun U hU => two_any r g gb (s2 q) U hU
  have HN0 : Hid ((s1 q).1 ≠ [] → q.1 ≠ []) := fun hx => drop_ne (n := intN q.1 8 4611686018427387905) hx
  have HN1 : Hid ((s2 q).1 ≠ [] → (s1 q).1 ≠ []) := fun hx => drop_ne (n := intN (s1 q).1 4 65536) hx
  have HN2 : Hid ((s3 q).1 ≠ [] → (s2 q).1 ≠ []) := fun hx => drop_ne (n := intN (s2 q).1 2 65535) hx
  have HLn : Hid ((s3 q).1.length ≤ 140737488355328) := Nat.le_trans (s_len q) hql
  have HC3 : Hid (∀ U, Ry U r g gb (s3 q) → _) := fun U hU => objr_any r g gb (s3 q) U hU HLn.out
  have HC4 : Hid (∀ U, Ry U r g gb (obS2 (s3 q)) → _) := fun U hU => tokr_any r g gb (obS2 (s3 q)) U hU
  have HC5 : Hid (∀ U, Ry U r g gb (tzS (obS2 (s3 q))) → _) := fun U hU => procr_any r g gb (tzS (obS2 (s3 q))) U hU
  have HN3 : Hid ((obS2 (s3 q)).1 ≠ [] → (s3 q).1 ≠ []) := ob_ne _
  have HN4 : Hid ((tzS (obS2 (s3 q))).1 ≠ [] → (obS2 (s3 q)).1 ≠ []) := tz_ne _
  have HN5 : Hid ((pzS (tzS (obS2 (s3 q)))).1 ≠ [] → (tzS (obS2 (s3 q))).1 ≠ []) := pz_ne _
  clear hql HLn
  generalize nmV q 8 4611686018427387905 = x0 at HC0 ⊢
  generalize nmV (s1 q) 4 65536 = x1 at HC1 ⊢
  generalize nmV (s2 q) 2 65535 = x2 at HC2 ⊢
  generalize pzV (tzS (obS2 (s3 q))) = PP at HC5 ⊢
  generalize pzS (tzS (obS2 (s3 q))) = q6 at HC5 HN5 ⊢
  generalize tzV (obS2 (s3 q)) = TT at HC4 ⊢
  generalize tzS (obS2 (s3 q)) = q5 at HC4 HC5 HN4 HN5 ⊢
  generalize obV (s3 q) = OO at HC3 ⊢
  generalize obS2 (s3 q) = q4 at HC3 HC4 HN3 HN4 ⊢
  generalize s3 q = q3 at HC2 HC3 HN2 HN3
  generalize s2 q = q2 at HC1 HC2 HN1 HN2
  generalize s1 q = q1 at HC0 HC1 HN0 HN1
  go_enter Try.func32, Try.ntmps32
  go_upto_region 2 with fail
  rw [← HU0.out]
  go_upto_region 3 with (first | (go_at_call 58; refine (HC0.out _ HT0.out.ry).mono ?_; rintro x u0 ⟨rfl, hr, hb⟩; obtain ⟨⟨z0, f0⟩, ht⟩ := HT0.out.go 3 (.int .i64 (x0 : Int)) (.int .i64 0) rfl hb hr HN0.out; have HT1 : Hid (Tb w (u0.setCell ⟨w.heap.size + 1, 3, none⟩ (.int .i64 (x0 : Int))) r g gb q q1 [.slice none 0 0, .slice none 0 0, .slice none 0 0, .int .i64 0, .int .i64 0, .int .i64 0] [.slice none 0 0, .slice none 0 0, .slice none 0 0, .int .i64 (x0 : Int), .int .i64 0, .int .i64 0]) := ht; clear hr hb ht))
  obtain ⟨U1, hU⟩ : ∃ U, U = u0.setCell ⟨w.heap.size + 1, 3, none⟩ (.int .i64 (x0 : Int)) := ⟨_, rfl⟩
  have HBt : Hid (But (· = w.heap.size + 1) u0 U1) := by rw [hU]; exact (But.refl (· = w.heap.size + 1) _).setCell (p := ⟨w.heap.size + 1, 3, none⟩) rfl _
  rw [← hU] at HT1 ⊢
  clear z0 f0 hU HBt HT0 HC0 HN0
  go_upto_region 4 with (first | (go_at_call 58; refine (HC1.out _ HT1.out.ry).mono ?_; rintro x u1 ⟨rfl, hr, hb⟩; obtain ⟨⟨z1, f1⟩, ht⟩ := HT1.out.go 4 (.int .i64 (x1 : Int)) (.int .i64 0) rfl hb hr HN1.out; have HT2 : Hid (Tb w (u1.setCell ⟨w.heap.size + 1, 4, none⟩ (.int .i64 (x1 : Int))) r g gb q q2 [.slice none 0 0, .slice none 0 0, .slice none 0 0, .int .i64 0, .int .i64 0, .int .i64 0] [.slice none 0 0, .slice none 0 0, .slice none 0 0, .int .i64 (x0 : Int), .int .i64 (x1 : Int), .int .i64 0]) := ht; clear hr hb ht))
  obtain ⟨U2, hU⟩ : ∃ U, U = u1.setCell ⟨w.heap.size + 1, 4, none⟩ (.int .i64 (x1 : Int)) := ⟨_, rfl⟩
  have HBt : Hid (But (· = w.heap.size + 1) u1 U2) := by rw [hU]; exact (But.refl (· = w.heap.size + 1) _).setCell (p := ⟨w.heap.size + 1, 4, none⟩) rfl _
  rw [← hU] at HT2 ⊢
  clear z1 f1 hU HBt HT1 HC1 HN1
  go_upto_region 5 with (first | (go_at_call 57; refine (HC2.out _ HT2.out.ry).mono ?_; rintro x u2 ⟨rfl, hr, hb⟩; obtain ⟨⟨z2, f2⟩, ht⟩ := HT2.out.go 5 (.int .i64 (x2 : Int)) (.int .i64 0) rfl hb hr HN2.out; have HT3 : Hid (Tb w (u2.setCell ⟨w.heap.size + 1, 5, none⟩ (.int .i64 (x2 : Int))) r g gb q q3 [.slice none 0 0, .slice none 0 0, .slice none 0 0, .int .i64 0, .int .i64 0, .int .i64 0] [.slice none 0 0, .slice none 0 0, .slice none 0 0, .int .i64 (x0 : Int), .int .i64 (x1 : Int), .int .i64 (x2 : Int)]) := ht; clear hr hb ht))
  obtain ⟨U3, hU⟩ : ∃ U, U = u2.setCell ⟨w.heap.size + 1, 5, none⟩ (.int .i64 (x2 : Int)) := ⟨_, rfl⟩
  have HBt : Hid (But (· = w.heap.size + 1) u2 U3) := by rw [hU]; exact (But.refl (· = w.heap.size + 1) _).setCell (p := ⟨w.heap.size + 1, 5, none⟩) rfl _
  rw [← hU] at HT3 ⊢
  clear z2 f2 hU HBt HT2 HC2 HN2
  go_upto_region 6 with (first | (go_at_call 59; refine (HC3.out _ HT3.out.ry).mono ?_; rintro x u3 ⟨a3, n3, c3, Q, rfl, hn3, he3, ho3, hr, hb⟩; have HA := hid (And.intro hn3 he3); have HO3 := hid (ho3.mono HT3.out.sz); clear hn3 he3 ho3; obtain ⟨⟨z3, f3⟩, ht⟩ := HT3.out.go 0 (.slice a3 n3 c3) (.slice none 0 0) rfl hb hr HN3.out; have HT4 : Hid (Tb w (u3.setCell ⟨w.heap.size + 1, 0, none⟩ (.slice a3 n3 c3)) r g gb q q4 [.slice none 0 0, .slice none 0 0, .slice none 0 0, .int .i64 0, .int .i64 0, .int .i64 0] [.slice a3 n3 c3, .slice none 0 0, .slice none 0 0, .int .i64 (x0 : Int), .int .i64 (x1 : Int), .int .i64 (x2 : Int)]) := ht; clear hr hb ht))
  obtain ⟨U4, hU⟩ : ∃ U, U = u3.setCell ⟨w.heap.size + 1, 0, none⟩ (.slice a3 n3 c3) := ⟨_, rfl⟩
  have HBt : Hid (But (· = w.heap.size + 1) u3 U4) := by rw [hU]; exact (But.refl (· = w.heap.size + 1) _).setCell (p := ⟨w.heap.size + 1, 0, none⟩) rfl _
  rw [← hU] at HT4 ⊢
  have HO3 := hid (HO3.out.but HBt.out (fun k hk _ hk2 => by omega))
  clear z3 f3 hU HBt HT3 HC3 HN3
  go_upto_region 7 with (first | (go_at_call 60; refine (HC4.out _ HT4.out.ry).mono ?_; rintro x u4 ⟨a4, n4, c4, rfl, hn4, hl4, ho4, hr, hb⟩; have HA4 := hid (And.intro hn4 hl4); have HO4 := hid (ho4.mono HT4.out.sz); have HO3u := hid (HO3.out.but hb (fun k hk _ hk2 => by have := HT4.out.sr; have := HT4.out.sg; rcases hk2 with hk2 | hk2 <;> omega)); clear hn4 hl4 ho4; obtain ⟨⟨z4, f4⟩, ht⟩ := HT4.out.go 1 (.slice a4 n4 c4) (.slice none 0 0) rfl hb hr HN4.out; have HT5 : Hid (Tb w (u4.setCell ⟨w.heap.size + 1, 1, none⟩ (.slice a4 n4 c4)) r g gb q q5 [.slice none 0 0, .slice none 0 0, .slice none 0 0, .int .i64 0, .int .i64 0, .int .i64 0] [.slice a3 n3 c3, .slice a4 n4 c4, .slice none 0 0, .int .i64 (x0 : Int), .int .i64 (x1 : Int), .int .i64 (x2 : Int)]) := ht; clear hr hb ht))
  obtain ⟨U5, hU⟩ : ∃ U, U = u4.setCell ⟨w.heap.size + 1, 1, none⟩ (.slice a4 n4 c4) := ⟨_, rfl⟩
  have HBt : Hid (But (· = w.heap.size + 1) u4 U5) := by rw [hU]; exact (But.refl (· = w.heap.size + 1) _).setCell (p := ⟨w.heap.size + 1, 1, none⟩) rfl _
  rw [← hU] at HT5 ⊢
  have HO3 := hid (HO3u.out.but HBt.out (fun k hk _ hk2 => by omega))
  have HO4 := hid (TkO.but HO4.out HBt.out (fun k hk _ hk2 => by omega))
  clear z4 f4 hU HBt HT4 HC4 HN4
  clear HO3u
  go_upto_region 8 with (first | (go_at_call 61; refine (HC5.out _ HT5.out.ry).mono ?_; rintro x u5 ⟨a5, n5, c5, R, rfl, hn5, he5, ho5, hr, hb⟩; have HA5 := hid (And.intro hn5 he5); have HO5 := hid (ho5.mono HT5.out.sz); have HO4u := hid (TkO.but HO4.out hb (fun k hk _ hk2 => by have := HT5.out.sr; have := HT5.out.sg; rcases hk2 with hk2 | hk2 <;> omega)); have HO3u := hid (HO3.out.but hb (fun k hk _ hk2 => by have := HT5.out.sr; have := HT5.out.sg; rcases hk2 with hk2 | hk2 <;> omega)); clear hn5 he5 ho5; obtain ⟨⟨z5, f5⟩, ht⟩ := HT5.out.go 2 (.slice a5 n5 c5) (.slice none 0 0) rfl hb hr HN5.out; have HT6 : Hid (Tb w (u5.setCell ⟨w.heap.size + 1, 2, none⟩ (.slice a5 n5 c5)) r g gb q q6 [.slice none 0 0, .slice none 0 0, .slice none 0 0, .int .i64 0, .int .i64 0, .int .i64 0] [.slice a3 n3 c3, .slice a4 n4 c4, .slice a5 n5 c5, .int .i64 (x0 : Int), .int .i64 (x1 : Int), .int .i64 (x2 : Int)]) := ht; clear hr hb ht))
  obtain ⟨U6, hU⟩ : ∃ U, U = u5.setCell ⟨w.heap.size + 1, 2, none⟩ (.slice a5 n5 c5) := ⟨_, rfl⟩
  have HBt : Hid (But (· = w.heap.size + 1) u5 U6) := by rw [hU]; exact (But.refl (· = w.heap.size + 1) _).setCell (p := ⟨w.heap.size + 1, 2, none⟩) rfl _
  rw [← hU] at HT6 ⊢
  have HO3 := hid (HO3u.out.but HBt.out (fun k hk _ hk2 => by omega))
  have HO4 := hid (TkO.but HO4u.out HBt.out (fun k hk _ hk2 => by omega))
  have HO5 := hid (HO5.out.but HBt.out (fun k hk _ hk2 => by omega))
  clear z5 f5 hU HBt HT5 HC5 HN5
  have hld : (Instr.loadAt 28 (.pointer (some ⟨w.heap.size + 1, 0, none⟩))).run Try.prog U6 = .ok (.agg #[.slice a3 n3 c3, .slice a4 n4 c4, .slice a5 n5 c5, .int .i64 (x0 : Int), .int .i64 (x1 : Int), .int .i64 (x2 : Int)]) U6 := ldS HT6.out.b1.range rfl
  have hst : (Instr.storeAt 28 (.pointer (some ⟨w.heap.size, 0, none⟩)) (.agg #[.slice a3 n3 c3, .slice a4 n4 c4, .slice a5 n5 c5, .int .i64 (x0 : Int), .int .i64 (x1 : Int), .int .i64 (x2 : Int)])).run Try.prog U6 = .ok () (U6.setCells w.heap.size 0 [.slice a3 n3 c3, .slice a4 n4 c4, .slice a5 n5 c5, .int .i64 (x0 : Int), .int .i64 (x1 : Int), .int .i64 (x2 : Int)]) := stS HT6.out.b0.there rfl (st_one ⟨a3, n3, c3⟩ ⟨a4, n4, c4⟩ ⟨a5, n5, c5⟩ x0 x1 x2)
  have hf := HT6.out.fin rfl
  have HLV : Hid ((loadVar 28 ⟨w.heap.size, 0, none⟩).run Try.prog (U6.setCells w.heap.size 0 [.slice a3 n3 c3, .slice a4 n4 c4, .slice a5 n5 c5, .int .i64 (x0 : Int), .int .i64 (x1 : Int), .int .i64 (x2 : Int)]) = .ok (.agg #[.slice a3 n3 c3, .slice a4 n4 c4, .slice a5 n5 c5, .int .i64 (x0 : Int), .int .i64 (x1 : Int), .int .i64 (x2 : Int)]) (U6.setCells w.heap.size 0 [.slice a3 n3 c3, .slice a4 n4 c4, .slice a5 n5 c5, .int .i64 (x0 : Int), .int .i64 (x1 : Int), .int .i64 (x2 : Int)])) := lvS hf.b0.range rfl
  have HF := hid hf
  have HLD := hid hld
  have HST := hid hst
  obtain ⟨UF, hUF⟩ : ∃ U, U = U6.setCells w.heap.size 0 [.slice a3 n3 c3, .slice a4 n4 c4, .slice a5 n5 c5, .int .i64 (x0 : Int), .int .i64 (x1 : Int), .int .i64 (x2 : Int)] := ⟨_, rfl⟩
  have HBf : Hid (But (· = w.heap.size) U6 UF) := by rw [hUF]; exact setCells_but (S := (· = w.heap.size)) rfl _ 0 (But.refl _ _)
  rw [← hUF] at HLV HF HST
  clear hld hst hf hUF
  have HO3 := hid (HO3.out.but HBf.out (fun k hk _ hk2 => by omega))
  have HO4 := hid (TkO.but HO4.out HBf.out (fun k hk _ hk2 => by omega))
  have HO5 := hid (HO5.out.but HBf.out (fun k hk _ hk2 => by omega))
  go_wp2_with (first | ((with_reducible refine ld_arm HLD.out ?_ ?_); (· rfl)) | ((with_reducible refine st_arm HST.out ?_ ?_ ?_); (· rfl); (· rfl)))
  have hlv := HLV.out
  exact bodyPost_ret (v := .agg #[.slice a3 n3 c3, .slice a4 n4 c4, .slice a5 n5 c5, .int .i64 (x0 : Int), .int .i64 (x1 : Int), .int .i64 (x2 : Int)]) (by simp [results, Try.results32, asAddr, Act.put, hlv]) rfl ⟨⟨a3, n3, c3⟩, ⟨a4, n4, c4⟩, ⟨a5, n5, c5⟩, Q, R, rfl, HA.out.1, HA4.out.1, HA5.out.1, HA.out.2, HA5.out.2, HA4.out.2, HO3.out.mono (by omega), HO4.out.mono (by omega), HO5.out.mono (by omega), HF.out.ry, HF.out.bt⟩
end Go.Proofs.Ythfmmfphnimlnaa
namespace Go.Proofs.Ythfmmfphnimlnaa
open Go.RowKit
set_option linter.unusedVariables false
set_option linter.unusedSimpArgs false
theorem rdL_all {α : Type} {f : Qs → α × Qs} {P : α → Prop} {I : Qs → Prop} (hf : ∀ q, I q → P (f q).1 ∧ I (f q).2) : ∀ n q, I q → (∀ x ∈ (rdL f n q).1, P x) ∧ I (rdL f n q).2
  | 0, q, h => ⟨fun x hx => absurd hx (by simp [rdL]), h⟩
  | n + 1, q, h => by
    obtain ⟨h1, h2⟩ := hf q h
    obtain ⟨h3, h4⟩ := rdL_all hf n (f q).2 h2
    refine ⟨fun x hx => ?_, h4⟩
    rcases List.mem_cons.1 hx with hx | hx
    · rw [hx]; exact h1
    · exact h3 x hx
/-- What is yet to be read are bytes, and not too many. -/
def Iq (q : Qs) : Prop := (∀ x ∈ q.1, x < 256) ∧ q.1.length ≤ 140737488355328
theorem iq_nm {q : Qs} (k m : Int) (h : Iq q) : Iq (nmS q k m) := ⟨nm_sm h.1, Nat.le_trans (nm_len q k m) h.2⟩
theorem iq_rw {q : Qs} (k : Int) (h : Iq q) : Iq (rwS q k) := ⟨rw_sm h.1, Nat.le_trans (rw_len q k) h.2⟩
theorem iq_cp {q : Qs} (h : Iq q) : Iq (cpS q) := ⟨cp_sm h.1, Nat.le_trans (cp_len q) h.2⟩
theorem iq_hd {q : Qs} (h : Iq q) : Iq (hdS q) := iq_rw (q := q) 8 h
theorem iq_cS {q : Qs} (h : Iq q) : ∀ n, Iq (cS q n)
  | 0 => h
  | n + 1 => iq_nm 2 65535 (iq_cS h n)
theorem iq_cf {q : Qs} (h : Iq q) : Iq (cfS q) := iq_cS h 10
theorem iq_ls {q : Qs} (h : Iq q) : (∀ x ∈ lsV q, x.ok) ∧ Iq (lsS q) := rdL_all (f := rdC) (P := Cp.ok) (I := Iq) (fun q h => ⟨(cp_ok h.1).1, iq_cp h⟩) _ _ (iq_nm 1 32 h)
theorem iq_ob {q : Qs} (h : Iq q) : (∀ x ∈ obV q, x.b.length ≤ 140737488355328) ∧ Iq (obS2 q) := rdL_all (f := rdO) (P := fun o => o.b.length ≤ 140737488355328) (I := Iq) (fun q h => ⟨by show ((oq2 q).1.take _).length ≤ _; have h2 : Iq (oq2 q) := iq_nm 2 4096 (iq_nm 8 MI h); rw [List.length_take]; have := h2.2; omega, iq_rw _ (iq_nm 2 4096 (iq_nm 8 MI h))⟩) _ _ (iq_nm 2 64 h)
theorem iq_tz {q : Qs} (h : Iq q) : (∀ x ∈ tzV q, x.c.ok) ∧ Iq (tzS q) := rdL_all (f := rdT) (P := fun t => t.c.ok) (I := Iq) (fun q h => ⟨(cp_ok h.1).1, iq_nm 2 65535 (iq_nm 1 255 (iq_cp h))⟩) _ _ (iq_nm 2 256 h)
theorem iq_pz {q : Qs} (h : Iq q) : (∀ p ∈ pzV q, ∀ x ∈ p.l, x.ok) ∧ Iq (pzS q) := rdL_all (f := rdP) (P := fun p => ∀ x ∈ p.l, x.ok) (I := Iq) (fun q h => ⟨(iq_ls (iq_nm 2 65535 h)).1, (iq_ls (iq_nm 2 65535 h)).2⟩) _ _ (iq_nm 2 32 h)
theorem iq_s3 {q : Qs} (h : Iq q) : Iq (s3 q) := iq_nm 2 65535 (iq_nm 4 65536 (iq_nm 8 _ h))
theorem len2 {α : Type} (Q : List (α × Sl)) (e : α × Sl → List Value) (he : ∀ q, (e q).length = 2) : ∀ x ∈ Q.map e, x.length = 2 := by
  intro x hx
  obtain ⟨q, _, rfl⟩ := List.mem_map.1 hx
  exact he q
/-- What was read is a state in memory. -/
theorem sm_of {w : World} {base : Nat} {q : Qs} (hq : Iq q) {a b c : Sl} {Q : List (Ob × Sl)} {R : List (Pc × Sl)} (h1 : a.n ≤ 64) (h2 : b.n ≤ 256) (h3 : c.n ≤ 32) (h4 : Q.map Prod.fst = (sV q).O) (h5 : R.map Prod.fst = (sV q).P) (ho : ObO w base a.a a.n a.c Q) (ht : Ow w base 67 5 b.a b.n b.c ((sV q).T.map encT).flatten) (hp : PrO w base c.a c.n c.c R) : Sm w (sV q) a b c Q R := by
  have i3 := iq_s3 hq
  have eT : (sV q).T = tzV (obS2 (s3 q)) := by rw [sV]
  have eO : (sV q).O = obV (s3 q) := by rw [sV]
  have eP : (sV q).P = pzV (tzS (obS2 (s3 q))) := by rw [sV]
  generalize sV q = S at *
  have io := iq_ob i3
  have it := iq_tz io.2
  have ip := iq_pz it.2
  have hQ : ∀ p ∈ Q, p.1 ∈ obV (s3 q) := fun p hp => by
    have : p.1 ∈ Q.map Prod.fst := List.mem_map.2 ⟨p, hp, rfl⟩
    rw [h4, eO] at this
    exact this
  have hR : ∀ p ∈ R, p.1 ∈ pzV (tzS (obS2 (s3 q))) := fun p hp => by
    have : p.1 ∈ R.map Prod.fst := List.mem_map.2 ⟨p, hp, rfl⟩
    rw [h5, eP] at this
    exact this
  refine ⟨h4, ho.row.at_ (len2 Q encO (fun _ => rfl)) (Nat.succ_pos _), fun p hp => (ho.each p hp).read, ht.at_ (fun x hx => by obtain ⟨y, _, rfl⟩ := List.mem_map.1 hx; rfl) (Nat.succ_pos _), h5, hp.row.at_ (len2 R encP (fun _ => rfl)) (Nat.succ_pos _), fun p hq => (hp.each p hq).2.at_ (fun x hx => by obtain ⟨y, _, rfl⟩ := List.mem_map.1 hx; rfl) (Nat.succ_pos _), fun x hx => it.1 x (by rw [← eT]; exact hx), fun p hq => ip.1 p.1 (hR p hq), by omega, by omega, by omega, fun p hq => ?_, fun p hq => by have := (hp.each p hq).1; omega⟩
  rw [← (ho.each p hq).len]
  exact io.1 p.1 (hQ p hq)
def pa1 (L : List Nat) : Qs := hdS (L, false)
def pa2 (L : List Nat) : Qs := cfS (pa1 L)
def paC (L : List Nat) : Cf := cfV (pa1 L)
def paS (L : List Nat) : St := sV (pa2 L)
def paE (L : List Nat) : Qs := sS (pa2 L)
/-- Are these bytes an image's? -/
def paB (L : List Nat) : Bool := (!(paE L).2 && decide ((paE L).1 = [])) && decide (chk (paC L) (paS L) 4096 = 0)
def cf0 : Cf := ⟨0, 0, 0, 0, 0, 0, 0, 0, 0, 0⟩
abbrev sl0 : Sl := ⟨none, 0, 0⟩
end Go.Proofs.Ythfmmfphnimlnaa
namespace Go.Proofs.Ythfmmfphnimlnaa
open Go.RowKit
set_option linter.unusedVariables false
set_option linter.unusedSimpArgs false
theorem wp_st {P : Program} {w w' : World} {o : Oper} {a : Act} {K : Act → World → Prop} {Q : Exit → Act → World → Prop} {ty : TypeId} {x y : Operand} {p v : Value} (ho : o.op = .store ty x y) (hx : a.eval x = p) (hy : a.eval y = v) (hr : (Instr.storeAt ty p v).run P w = .ok () w') (h : K (a.put o.dst undef) w') : o.wp P a w K Q := by
  unfold Oper.wp execOp
  simp only [ho, hx, hy, hr, Sem.run_bind, Sem.run_pure, Result.andThen_ok]
  exact h
/-- Two results in boxes are written. -/
theorem two_res {w V : World} (hV : Below w.heap.size w V) {Z1 Z2 L1 L2 : List Value} (h1 : Bx V w.heap.size Z1) (h2 : Bx V (w.heap.size + 1) Z2) (e1 : L1.length = 10) (e2 : L2.length = 6) (z1 : Z1.length = 10) (z2 : Z2.length = 6) (o1 : ∀ v ∈ L1, v.oneCell' = true) (o2 : ∀ v ∈ L2, v.oneCell' = true) :
    ∃ V5 V6, (Instr.storeAt 23 (.pointer (some ⟨w.heap.size, 0, none⟩)) (.agg L1.toArray)).run Try.prog V = .ok () V5 ∧ (Instr.storeAt 28 (.pointer (some ⟨w.heap.size + 1, 0, none⟩)) (.agg L2.toArray)).run Try.prog V5 = .ok () V6 ∧ (loadVar 23 ⟨w.heap.size, 0, none⟩).run Try.prog V6 = .ok (.agg L1.toArray) V6 ∧ (loadVar 28 ⟨w.heap.size + 1, 0, none⟩).run Try.prog V6 = .ok (.agg L2.toArray) V6 ∧ Below w.heap.size w V6 ∧ But (fun k => k = w.heap.size ∨ k = w.heap.size + 1) V V6 ∧ But (fun k => k = w.heap.size ∨ k = w.heap.size + 1) V V5 := by
  have b1 : But (fun k => k = w.heap.size ∨ k = w.heap.size + 1) V (V.setCells w.heap.size 0 L1) := setCells_but (S := fun k => k = w.heap.size ∨ k = w.heap.size + 1) (.inl rfl) _ 0 (But.refl _ _)
  have b1' : But (fun k => k = w.heap.size) V (V.setCells w.heap.size 0 L1) := setCells_but (S := fun k => k = w.heap.size) rfl _ 0 (But.refl _ _)
  have b2' : But (fun k => k = w.heap.size + 1) (V.setCells w.heap.size 0 L1) ((V.setCells w.heap.size 0 L1).setCells (w.heap.size + 1) 0 L2) := setCells_but (S := fun k => k = w.heap.size + 1) rfl _ 0 (But.refl _ _)
  have b2 : But (fun k => k = w.heap.size ∨ k = w.heap.size + 1) (V.setCells w.heap.size 0 L1) ((V.setCells w.heap.size 0 L1).setCells (w.heap.size + 1) 0 L2) := b2'.mono (fun k hk => .inr hk)
  have x1 := h1.set (M := L1) (by omega)
  have x2 := h2.but b1' (by omega)
  have y2 := x2.set (M := L2) (by omega)
  have y1 := x1.but b2' (by omega)
  exact ⟨_, _, stF (by have := h1.there; rwa [z1] at this) e1 o1, stS (by have := x2.there; rwa [z2] at this) e2 o2, lvF y1.range e1, lvS y2.range e2, But.below hV (b1.trans b2) (fun k hk => by omega), b1.trans b2, b1⟩
theorem Sm.but {S : Nat → Prop} {w w' : World} {a b c : Sl} {Q : List (Ob × Sl)} {R : List (Pc × Sl)} {base : Nat} (hb : But S w w') (hS : ∀ k, base ≤ k → ¬ S k) {q : Qs} (hq : Iq q) (h1 : a.n ≤ 64) (h2 : b.n ≤ 256) (h3 : c.n ≤ 32) (h4 : Q.map Prod.fst = (sV q).O) (h5 : R.map Prod.fst = (sV q).P) (ho : ObO w base a.a a.n a.c Q) (ht : Ow w base 67 5 b.a b.n b.c ((sV q).T.map encT).flatten) (hp : PrO w base c.a c.n c.c R) : Sm w' (sV q) a b c Q R :=
  sm_of hq h1 h2 h3 h4 h5 (ho.but hb (fun k hk _ => hS k hk)) (TkO.but ht hb (fun k hk _ => hS k hk)) (hp.but hb (fun k hk _ => hS k hk))
theorem first_ne {x : Bool} (h : x = false) (y : Bool) : ¬ ((x && y) = true) := by rw [h]; simp
set_option maxRecDepth 100000 in
set_option maxHeartbeats 4000000 in
theorem parse_any (ra : Option Addr) (rn rc : Nat) (L : List Nat) (w : World) (h : Row w ra rn rc L) (hn : rn ≤ 140737488355328) :
    Calls Try.prog 11 #[.slice ra rn rc] w fun x w' => Below w.heap.size w w' ∧ (paB L = true → ∃ a b d Q R, x = .returned (.tuple #[(paC L).v, stV a b d (paS L).nx (paS L).px (paS L).ta, .int .i64 0]) ∧ Sm w' (paS L) a b d Q R) ∧ (paB L = false → x = .returned (.tuple #[cf0.v, stV sl0 sl0 sl0 0 0 0, .int .i64 21])) := by
  obtain ⟨W, hW⟩ : ∃ W, W = (w.alloc (Obj.cells #[.int .i64 0, .int .i64 0, .int .i64 0, .int .i64 0, .int .i64 0, .int .i64 0, .int .i64 0, .int .i64 0, .int .i64 0, .int .i64 0] 23)).alloc (Obj.cells #[.slice none 0 0, .slice none 0 0, .slice none 0 0, .int .i64 0, .int .i64 0, .int .i64 0] 28) := ⟨_, rfl⟩
  have hB : Below w.heap.size w W := by rw [hW]; exact below2 _ _ _
  have HX0 : Hid (Bx W w.heap.size [.int .i64 0, .int .i64 0, .int .i64 0, .int .i64 0, .int .i64 0, .int .i64 0, .int .i64 0, .int .i64 0, .int .i64 0, .int .i64 0]) := by rw [hW]; exact (Bx.new w [.int .i64 0, .int .i64 0, .int .i64 0, .int .i64 0, .int .i64 0, .int .i64 0, .int .i64 0, .int .i64 0, .int .i64 0, .int .i64 0] _).later (below1 _ _)
  have HX1 : Hid (Bx W (w.heap.size + 1) [.slice none 0 0, .slice none 0 0, .slice none 0 0, .int .i64 0, .int .i64 0, .int .i64 0]) := by rw [hW]; have := Bx.new (w.alloc (Obj.cells #[.int .i64 0, .int .i64 0, .int .i64 0, .int .i64 0, .int .i64 0, .int .i64 0, .int .i64 0, .int .i64 0, .int .i64 0, .int .i64 0] 23)) [.slice none 0 0, .slice none 0 0, .slice none 0 0, .int .i64 0, .int .i64 0, .int .i64 0] 28; simp at this; exact this
  have HWz : Hid (W.heap.size = w.heap.size + 2) := by unfold Hid; rw [hW]; simp
  have HNR := hid (newReader_any ra rn rc L W (h.later hB) hn)
  have HIq : Hid (Iq (L, false)) := ⟨h.small, by show L.length ≤ _; rw [h.len]; exact hn⟩
  have HB := hid hB
  have HW := hid hW
  unfold paB
  have HHd := hid head_any
  have HCf := hid config_any
  have HSt := hid state_any
  have HEn := hid ended_any
  have HCk := hid check_any
  have HI1 : Hid (Iq (pa1 L)) := iq_hd HIq.out
  have HI2 : Hid (Iq (pa2 L)) := iq_cf HI1.out
  have HH1 : Hid (∀ r g gb U, Ry U r g gb (L, false) → Calls Try.prog 30 #[.pointer (some ⟨r, 0, none⟩)] U fun x w' => x = .returned (.tuple #[]) ∧ Ry w' r g gb (pa1 L) ∧ But (RN r g) U w') := fun r g gb U hU => HHd.out r g gb (L, false) U hU HIq.out.2
  have HH2 : Hid (∀ r g gb U, Ry U r g gb (pa1 L) → Calls Try.prog 31 #[.pointer (some ⟨r, 0, none⟩)] U fun x w' => x = .returned (paC L).v ∧ Ry w' r g gb (pa2 L) ∧ But (RN r g) U w') := fun r g gb U hU => HCf.out r g gb (pa1 L) U hU
  have HH3 : Hid (∀ r g gb U, Ry U r g gb (pa2 L) → Calls Try.prog 32 #[.pointer (some ⟨r, 0, none⟩)] U fun x w' => ∃ a b c Q R, x = .returned (stV a b c (paS L).nx (paS L).px (paS L).ta) ∧ a.n ≤ 64 ∧ b.n ≤ 256 ∧ c.n ≤ 32 ∧ Q.map Prod.fst = (paS L).O ∧ R.map Prod.fst = (paS L).P ∧ (paS L).T.length = b.n ∧ ObO w' U.heap.size a.a a.n a.c Q ∧ Ow w' U.heap.size 67 5 b.a b.n b.c ((paS L).T.map encT).flatten ∧ PrO w' U.heap.size c.a c.n c.c R ∧ Ry w' r g gb (paE L) ∧ But (RN r g) U w') := fun r g gb U hU => HSt.out r g gb (pa2 L) U hU HI2.out.2
  have HSm : Hid (∀ (S : Nat → Prop) (U U' : World) (base : Nat) (a b c : Sl) (Q : List (Ob × Sl)) (R : List (Pc × Sl)), But S U U' → (∀ k, base ≤ k → ¬ S k) → a.n ≤ 64 → b.n ≤ 256 → c.n ≤ 32 → Q.map Prod.fst = (paS L).O → R.map Prod.fst = (paS L).P → ObO U base a.a a.n a.c Q → Ow U base 67 5 b.a b.n b.c ((paS L).T.map encT).flatten → PrO U base c.a c.n c.c R → Sm U' (paS L) a b c Q R) := fun S U U' base a b c Q R hb hS g1 g2 g3 g4 g5 g6 g7 g8 => Sm.but hb hS HI2.out g1 g2 g3 g4 g5 g6 g7 g8
  generalize paE L = qE at HH3 ⊢
  generalize paS L = s at HH3 HSm ⊢
  generalize paC L = c at HH2 ⊢
  generalize pa2 L = q2 at HH2 HH3
  generalize pa1 L = q1 at HH1 HH2
  clear h hn hB hW HIq HI1 HI2 HHd HCf HSt
  go_enter Try.func11, Try.ntmps11
  go_upto_region 1 with fail
  rw [← HW.out]
  go_upto_region 2 with (first | (go_at_call 29; refine HNR.out.mono ?_; rintro x w1 ⟨g, gb, rfl, hrd, hg, hgb, hb1⟩; have HRd := hid hrd; have HG := hid (And.intro hg hgb); have HB1 := hid hb1; clear hrd hg hgb hb1))
  obtain ⟨V1, hV1⟩ : ∃ V, V = w1.alloc (Obj.cells #[.pointer (some ⟨g, 0, none⟩), .bool false] 74) := ⟨_, rfl⟩
  rw [← hV1]
  have HBv1 : Hid (Below w1.heap.size w1 V1) := by rw [hV1]; exact below1 _ _
  have HRy : Hid (Ry V1 w1.heap.size g gb (L, false)) := by
    refine ⟨?_, ?_, ?_, ?_, ?_⟩
    · rw [hV1]; simp [go_sem]
    · rw [hV1]; exact ⟨by simp [go_sem], by simp [go_sem]⟩
    · exact HRd.out.but2 (S := fun _ => False) (But.of HBv1.out) (fun h => h) (fun _ h => h)
    · have := HRd.out.gl; omega
    · intro hR; have := HRd.out.gb hR; omega
  have HBW : Hid (Below W.heap.size W V1) := below_call HB1.out HBv1.out
  obtain ⟨r, hr⟩ : ∃ r, r = w1.heap.size := ⟨_, rfl⟩
  have HGr : Hid (W.heap.size ≤ r ∧ W.heap.size ≤ g) := ⟨by rw [hr]; exact HB1.out.size, HG.out.1⟩
  rw [← hr] at HRy ⊢
  clear hV1 HBv1 HRd HB1 hr HNR
  go_upto_region 3 with (first | (go_at_call 30; refine (HH1.out _ _ _ _ HRy.out).mono ?_; rintro x w2 ⟨rfl, hr2, hb2⟩; have HR2 := hid hr2; have HB2 : Hid (Below W.heap.size W w2) := But.below HBW.out hb2 (fun k hk => by have := HGr.out; rcases hk with rfl | rfl <;> omega); clear hr2 hb2))
  go_upto_region 4 with (first | (go_at_call 31; refine (HH2.out _ _ _ _ HR2.out).mono ?_; rintro x w3 ⟨rfl, hr3, hb3⟩; have HR3 := hid hr3; have HB3 : Hid (Below W.heap.size W w3) := But.below HB2.out hb3 (fun k hk => by have := HGr.out; rcases hk with rfl | rfl <;> omega); clear hr3 hb3))
  obtain ⟨V3, hV3⟩ : ∃ V, V = w3.alloc (Obj.cells #[.int .i64 c.w, .int .i64 c.o, .int .i64 c.p, .int .i64 c.e, .int .i64 c.q, .int .i64 c.r, .int .i64 c.l, .int .i64 c.s, .int .i64 c.y, .int .i64 c.k] 23) := ⟨_, rfl⟩
  rw [← hV3]
  have HBv3 : Hid (Below w3.heap.size w3 V3) := by rw [hV3]; exact below1 _ _
  have HX6 : Hid (Bx V3 w3.heap.size c.L) := by rw [hV3]; exact Bx.new w3 c.L _
  have HR3v := hid (HR3.out.later HBv3.out)
  have HB3v : Hid (Below W.heap.size W V3) := below_call HB3.out HBv3.out
  obtain ⟨b6, hb6⟩ : ∃ b, b = w3.heap.size := ⟨_, rfl⟩
  have H6 : Hid (W.heap.size ≤ b6 ∧ b6 < V3.heap.size ∧ ¬ RN r g b6) := by
    have h6 : r < w3.heap.size ∧ g < w3.heap.size := ⟨World.block_lt_of_cell? _ _ HR3.out.c0, HR3.out.rd.gl⟩
    exact ⟨by rw [hb6]; exact HB3.out.size, by rw [hb6, hV3]; simp, fun hk => by rcases hk with hk | hk <;> omega⟩
  rw [← hb6] at HX6 ⊢
  clear hV3 HBv3 HR3 HB3 hb6 HRy HBW HR2 HB2
  go_upto_region 5 with (first | (go_at_call 32; refine (HH3.out _ _ _ _ HR3v.out).mono ?_; rintro x w4 ⟨a, b, d, Q, R, rfl, g1, g2, g3, g4, g5, -, g6, g7, g8, hr4, hb4⟩; have HR4 := hid hr4; have HB4 : Hid (Below W.heap.size W w4) := But.below HB3v.out hb4 (fun k hk => by have := HGr.out; rcases hk with rfl | rfl <;> omega); have HX64 := hid (HX6.out.but hb4 H6.out.2.2); have HSm4 : Hid (∀ (S : Nat → Prop) U', But S w4 U' → (∀ k, V3.heap.size ≤ k → ¬ S k) → Sm U' s a b d Q R) := fun S U' hb hS => HSm.out S w4 U' _ a b d Q R hb hS g1 g2 g3 g4 g5 g6 g7 g8; clear g1 g2 g3 g4 g5 g6 g7 g8 hr4 hb4))
  obtain ⟨V4, hV4⟩ : ∃ V, V = w4.alloc (Obj.cells #[.slice a.a a.n a.c, .slice b.a b.n b.c, .slice d.a d.n d.c, .int .i64 s.nx, .int .i64 s.px, .int .i64 s.ta] 28) := ⟨_, rfl⟩
  rw [← hV4]
  have HBv4 : Hid (Below w4.heap.size w4 V4) := by rw [hV4]; exact below1 _ _
  have HX7 : Hid (Bx V4 w4.heap.size [.slice a.a a.n a.c, .slice b.a b.n b.c, .slice d.a d.n d.c, .int .i64 s.nx, .int .i64 s.px, .int .i64 s.ta]) := by rw [hV4]; exact Bx.new w4 [.slice a.a a.n a.c, .slice b.a b.n b.c, .slice d.a d.n d.c, .int .i64 s.nx, .int .i64 s.px, .int .i64 s.ta] _
  have HX6v := hid (HX64.out.later HBv4.out)
  have HBV : Hid (Below W.heap.size W V4) := below_call HB4.out HBv4.out
  have HE4 := hid (HEn.out r g gb qE V4 (HR4.out.later HBv4.out))
  have HCk4 := hid (HCk.out c s a b d Q R V4 (HSm4.out (fun _ => False) V4 (But.of HBv4.out) (fun _ _ h => h)) 4096)
  obtain ⟨b7, hb7⟩ : ∃ b, b = w4.heap.size := ⟨_, rfl⟩
  have H7 : Hid (W.heap.size ≤ b7) := by unfold Hid; rw [hb7]; exact HB4.out.size
  rw [← hb7] at HX7 ⊢
  clear hV4 hb7 HR4 HB4 HX64 HX6 HR3v HB3v HEn HCk
  have HRB := hid (below_call HB.out HBV.out)
  cases he : (!qE.2 && decide (qE.1 = [])) with
  | false =>
    rw [he] at HE4
    obtain ⟨V5, V6, hs1, hs2, hl1, hl2, hb6, hbt, hbt5⟩ := two_res (L1 := [.int .i64 0, .int .i64 0, .int .i64 0, .int .i64 0, .int .i64 0, .int .i64 0, .int .i64 0, .int .i64 0, .int .i64 0, .int .i64 0]) (L2 := [.slice none 0 0, .slice none 0 0, .slice none 0 0, .int .i64 0, .int .i64 0, .int .i64 0]) HRB.out (HX0.out.later HBV.out) (HX1.out.later HBV.out) rfl rfl rfl rfl (cf_one cf0) (st_one sl0 sl0 sl0 0 0 0)
    have HS1 := hid hs1
    have HS2 := hid hs2
    have HF := hid hb6
    clear hs1 hs2 hb6 hbt hbt5
    go_wp2_with (first | (go_at_call 33; refine HE4.out.mono ?_; rintro x w5 ⟨rfl, rfl⟩) | ((with_reducible refine st_arm HS1.out ?_ ?_ ?_); (· rfl); (· rfl)) | ((with_reducible refine st_arm HS2.out ?_ ?_ ?_); (· rfl); (· rfl)))
    exact bodyPost_ret (v := .tuple #[cf0.v, stV sl0 sl0 sl0 0 0 0, .int .i64 21]) (by simp [results, Try.results11, asAddr, Act.put, hl1, hl2, cf0]) rfl ⟨HF.out, (fun e => absurd e (first_ne he _)), fun _ => rfl⟩
  | true =>
    rw [he] at HE4
    have HLD6 : Hid ((Instr.loadAt 23 (.pointer (some ⟨b6, 0, none⟩))).run Try.prog V4 = .ok c.v V4) := ldF HX6v.out.range rfl
    have HLD7 : Hid ((Instr.loadAt 28 (.pointer (some ⟨b7, 0, none⟩))).run Try.prog V4 = .ok (stV a b d s.nx s.px s.ta) V4) := ldS HX7.out.range rfl
    by_cases hk : chk c s 4096 = 0
    · have HZ := hid hk
      have HCk5 : Hid (Calls Try.prog 9 #[c.v, stV a b d s.nx s.px s.ta, .int .i64 4096] V4 fun e w' => e = .returned (.int .i64 0) ∧ Below V4.heap.size V4 w') := by
        unfold Hid
        have := HCk4.out
        rw [hk] at this
        exact this
      clear hk HCk4
      go_upto_region 7 with (first | (go_at_call 33; refine HE4.out.mono ?_; rintro x w5 ⟨rfl, rfl⟩) | ((with_reducible refine ld_armg HLD6.out ?_ ?_ ?_); (· rfl); (· rfl)) | ((with_reducible refine ld_armg HLD7.out ?_ ?_ ?_); (· rfl); (· rfl)) | (go_at_call 9; refine HCk5.out.mono ?_; rintro x w6 ⟨rfl, hbk⟩; have HBK := hid hbk; clear hbk))
      have HBK2 : Hid (Below w5.heap.size w5 w6.drew) := below_call HBK.out (Below.refl _ _).drew
      obtain ⟨V5, V6, hs1, hs2, hl1, hl2, hb6, hbt, hbt5⟩ := two_res (L1 := [.int .i64 c.w, .int .i64 c.o, .int .i64 c.p, .int .i64 c.e, .int .i64 c.q, .int .i64 c.r, .int .i64 c.l, .int .i64 c.s, .int .i64 c.y, .int .i64 c.k]) (L2 := [.slice a.a a.n a.c, .slice b.a b.n b.c, .slice d.a d.n d.c, .int .i64 s.nx, .int .i64 s.px, .int .i64 s.ta]) (V := w6.drew) (below_call HRB.out HBK2.out) ((HX0.out.later HBV.out).later HBK2.out) ((HX1.out.later HBV.out).later HBK2.out) rfl rfl rfl rfl (cf_one c) (st_one a b d s.nx s.px s.ta)
      have HS1 := hid hs1
      have HS2 := hid hs2
      have HF := hid hb6
      have HS5 : Hid (V5.rangeAt b6 0 [.int .i64 c.w, .int .i64 c.o, .int .i64 c.p, .int .i64 c.e, .int .i64 c.q, .int .i64 c.r, .int .i64 c.l, .int .i64 c.s, .int .i64 c.y, .int .i64 c.k] ∧ V5.rangeAt b7 0 [.slice a.a a.n a.c, .slice b.a b.n b.c, .slice d.a d.n d.c, .int .i64 s.nx, .int .i64 s.px, .int .i64 s.ta]) := ⟨((HX6v.out.later HBK2.out).but hbt5 (fun e => by have := H6.out.1; have := HWz.out; omega)).range, ((HX7.out.later HBK2.out).but hbt5 (fun e => by have := H7.out; have := HWz.out; omega)).range⟩
      have HS6 : Hid (V6.rangeAt b6 0 [.int .i64 c.w, .int .i64 c.o, .int .i64 c.p, .int .i64 c.e, .int .i64 c.q, .int .i64 c.r, .int .i64 c.l, .int .i64 c.s, .int .i64 c.y, .int .i64 c.k] ∧ V6.rangeAt b7 0 [.slice a.a a.n a.c, .slice b.a b.n b.c, .slice d.a d.n d.c, .int .i64 s.nx, .int .i64 s.px, .int .i64 s.ta]) := ⟨((HX6v.out.later HBK2.out).but hbt (fun e => by have := H6.out.1; have := HWz.out; omega)).range, ((HX7.out.later HBK2.out).but hbt (fun e => by have := H7.out; have := HWz.out; omega)).range⟩
      have HSmF : Hid (Sm V6 s a b d Q R) := HSm4.out _ V6 ((But.of (S := fun k => k = w.heap.size ∨ k = w.heap.size + 1) (below_call HBv4.out HBK2.out)).trans hbt) (fun k hk e => by have := H6.out; have := HWz.out; omega)
      clear hs1 hs2 hb6 hbt hbt5
      refine wp_region_held_drew (S := (fun U : World => U.rangeAt b6 0 [.int .i64 c.w, .int .i64 c.o, .int .i64 c.p, .int .i64 c.e, .int .i64 c.q, .int .i64 c.r, .int .i64 c.l, .int .i64 c.s, .int .i64 c.y, .int .i64 c.k] ∧ U.rangeAt b7 0 [.slice a.a a.n a.c, .slice b.a b.n b.c, .slice d.a d.n d.c, .int .i64 s.nx, .int .i64 s.px, .int .i64 s.ta])) (by kernel_rfl) ⟨(HX6v.out.later HBK2.out).range, (HX7.out.later HBK2.out).range⟩ (fun hHeld => ?_)
      refine wpAnyH_norm (l2 := #[false, false, false, false, false]) (f2 := 5) (by kernel_rfl) (by kernel_rfl) ?_
      refine wpAnyH_take (i := 0) (oi := _) (v := c.v) rfl (by kernel_rfl) (by kernel_rfl) (by kernel_rfl) (fun _ _ _ h => h) (Or.inl ⟨by rfl, ?_⟩) (by assumption) ?_
      · (intro w hSw; exact ex_ld rfl rfl (ldF hSw.1 rfl))
      simp only [List.getElem_toArray, List.getElem_cons_succ, List.getElem_cons_zero, Act.put, List.setIfInBounds_toArray, List.set_cons_zero, List.set_cons_succ]
      refine wpAnyH_norm (l2 := #[true, false, false, false, false]) (f2 := 4) (by kernel_rfl) (by kernel_rfl) ?_
      refine wpAnyH_take (i := 1) (oi := _) (v := stV a b d s.nx s.px s.ta) rfl (by kernel_rfl) (by kernel_rfl) (by kernel_rfl) (fun _ _ _ h => h) (Or.inl ⟨by rfl, ?_⟩) (by assumption) ?_
      · (intro w hSw; exact ex_ld rfl rfl (ldS hSw.2 rfl))
      simp only [List.getElem_toArray, List.getElem_cons_succ, List.getElem_cons_zero, Act.put, List.setIfInBounds_toArray, List.set_cons_zero, List.set_cons_succ]
      refine wpAnyH_norm (l2 := #[true, true, false, false, false]) (f2 := 3) (by kernel_rfl) (by kernel_rfl) ?_
      refine wpAnyH_ready (rs := [2]) (by kernel_rfl) (by simp) ?_
      refine AllReadyH.cons rfl (fun K hK => ?_) AllReadyH.nil
      refine wp_st rfl rfl rfl HS1.out ?_
      refine hK.out _ _ HS5.out (fun hHeld => ?_)
      clear hK K
      simp only [List.getElem_toArray, List.getElem_cons_succ, List.getElem_cons_zero, Act.put, List.setIfInBounds_toArray, List.set_cons_zero, List.set_cons_succ]
      refine wpAnyH_norm (l2 := #[true, true, true, false, false]) (f2 := 2) (by kernel_rfl) (by kernel_rfl) ?_
      refine wpAnyH_ready (rs := [3]) (by kernel_rfl) (by simp) ?_
      refine AllReadyH.cons rfl (fun K hK => ?_) AllReadyH.nil
      refine wp_st rfl rfl rfl HS2.out ?_
      refine hK.out _ _ HS6.out (fun hHeld => ?_)
      clear hK K
      simp only [List.getElem_toArray, List.getElem_cons_succ, List.getElem_cons_zero, Act.put, List.setIfInBounds_toArray, List.set_cons_zero, List.set_cons_succ]
      refine wpAnyH_norm (l2 := #[true, true, true, true, false]) (f2 := 1) (by kernel_rfl) (by kernel_rfl) ?_
      refine wpAnyH_ready (rs := [4]) (by kernel_rfl) (by simp) ?_
      refine AllReadyH.cons rfl (fun K hK => ?_) AllReadyH.nil
      go_simp
      refine hK.out _ _ HS6.out (fun hHeld => ?_)
      clear hK K
      simp only [List.getElem_toArray, List.getElem_cons_succ, List.getElem_cons_zero, Act.put, List.setIfInBounds_toArray, List.set_cons_zero, List.set_cons_succ]
      refine wpAnyH_norm (l2 := #[true, true, true, true, true]) (f2 := 0) (by kernel_rfl) (by kernel_rfl) ?_
      refine wpAnyH_done (by kernel_rfl) ?_ _
      go_wp2
      exact bodyPost_ret (v := .tuple #[c.v, stV a b d s.nx s.px s.ta, .int .i64 0]) (by simp [results, Try.results11, asAddr, Act.put, hl1, hl2]) rfl ⟨HF.out, fun _ => ⟨a, b, d, Q, R, rfl, HSmF.out⟩, fun e => absurd e (by simp [HZ.out, he])⟩
    · have hk2 : (((chk c s 4096 : Nat) : Int) != 0) = true := by simp; omega
      have HNZ := hid hk
      have HCk5 : Hid (∃ kk : Nat, ((kk : Int) != 0) = true ∧ Calls Try.prog 9 #[c.v, stV a b d s.nx s.px s.ta, .int .i64 4096] V4 fun e w' => e = .returned (.int .i64 (kk : Int)) ∧ Below V4.heap.size V4 w') := ⟨_, hk2, HCk4.out⟩
      clear hk hk2 HCk4
      obtain ⟨kk, hk2, hck⟩ := HCk5.out
      have HCK := hid hck
      clear hck HCk5
      go_upto_region 6 with (first | (go_at_call 33; refine HE4.out.mono ?_; rintro x w5 ⟨rfl, rfl⟩) | ((with_reducible refine ld_armg HLD6.out ?_ ?_ ?_); (· rfl); (· rfl)) | ((with_reducible refine ld_armg HLD7.out ?_ ?_ ?_); (· rfl); (· rfl)) | (go_at_call 9; refine HCK.out.mono ?_; rintro x w6 ⟨rfl, hbk⟩; have HBK := hid hbk; clear hbk))
      obtain ⟨V5, V6, hs1, hs2, hl1, hl2, hb6, hbt, hbt5⟩ := two_res (L1 := [.int .i64 0, .int .i64 0, .int .i64 0, .int .i64 0, .int .i64 0, .int .i64 0, .int .i64 0, .int .i64 0, .int .i64 0, .int .i64 0]) (L2 := [.slice none 0 0, .slice none 0 0, .slice none 0 0, .int .i64 0, .int .i64 0, .int .i64 0]) (V := w6) (below_call HRB.out HBK.out) ((HX0.out.later HBV.out).later HBK.out) ((HX1.out.later HBV.out).later HBK.out) rfl rfl rfl rfl (cf_one cf0) (st_one sl0 sl0 sl0 0 0 0)
      have HS1 := hid hs1
      have HS2 := hid hs2
      have HF := hid hb6
      clear hs1 hs2 hb6 hbt hbt5
      go_wp2_with (first | ((with_reducible refine st_arm HS1.out ?_ ?_ ?_); (· rfl); (· rfl)) | ((with_reducible refine st_arm HS2.out ?_ ?_ ?_); (· rfl); (· rfl)))
      exact bodyPost_ret (v := .tuple #[cf0.v, stV sl0 sl0 sl0 0 0 0, .int .i64 21]) (by simp [results, Try.results11, asAddr, Act.put, hl1, hl2, cf0]) rfl ⟨HF.out, (fun e => absurd e (by simp [HNZ.out])), fun _ => rfl⟩
end Go.Proofs.Ythfmmfphnimlnaa
