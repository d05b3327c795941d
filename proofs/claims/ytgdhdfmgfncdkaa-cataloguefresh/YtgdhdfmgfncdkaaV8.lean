import Derived.Test.YtgdhdfmgfncdkaaV7
namespace Go.Proofs.Ytgdhdfmgfncdkaa
open Go.RowKit H
set_option linter.unusedVariables false

/-- What an adding call answers, and what is there behind it. -/
structure Res where
  num : Int
  code : Int
  X : List Tk
  l : Fo
def addR (mo : Nat) (X : List Tk) (l : Fo) (p : Int) (c : Cp) (r : Int) : Res :=
  if hasC X l c = true then ⟨0, 19, X, l⟩ else if l.length = mo then ⟨0, 10, X, l⟩ else ⟨(low l : Int), 0, X.set (low l) (c, r), l ++ [((low l : Int), p)]⟩
def rootR (mo : Nat) (X : List Tk) (l : Fo) (c : Cp) (r : Int) : Res :=
  if validB r = false then ⟨0, 4, X, l⟩ else if hasO X l c.1 = true then ⟨0, 19, X, l⟩ else addR mo X l (-1) c r
def childR (mo : Nat) (X : List Tk) (l : Fo) (p : Int) (c : Cp) (r : Int) : Res :=
  if p ∉ nums l then ⟨0, 20, X, l⟩ else if ob X p ≠ c.1 then ⟨0, 3, X, l⟩ else if partB r (rg X p) = false then ⟨0, 4, X, l⟩ else addR mo X l p c r
/-- Behind an adding call. -/
def Done (w : World) (A : Ad) (kn mo : Nat) (R : Res) (e : Ending) (w' : World) : Prop :=
  e = .returned (.tuple #[.int .i64 R.num, .int .i64 R.code]) ∧ Cat w' A kn mo R.X R.l ∧ But A.Wr w w'
theorem Done.same {w w' : World} {A : Ad} {kn mo : Nat} {X : List Tk} {l : Fo} {c : Int} (h : Cat w A kn mo X l) (hb : Below w.heap.size w w') : Done w A kn mo ⟨0, c, X, l⟩ (.returned (.tuple #[.int .i64 0, .int .i64 c])) w' := ⟨rfl, h.later hb, But.of hb⟩
theorem Done.pre {w W w' : World} {A : Ad} {kn mo : Nat} {R : Res} {e : Ending} (hb : Below w.heap.size w W) (h : Done W A kn mo R e w') : Done w A kn mo R e w' := ⟨h.1, h.2.1, (But.of hb).trans h.2.2⟩

set_option maxRecDepth 100000 in
set_option maxHeartbeats 1000000 in
theorem add_no {w : World} {A : Ad} {kn mo : Nat} {X : List Tk} {l : Fo} (h : Cat w A kn mo X l) (p o : Int) (hi lo : Nat) (r code : Int) (hc : code ≠ 0)
    (hG : ∀ W, Below w.heap.size w W → Calls Try.prog 62 #[.pointer (some ⟨A.g, 0, none⟩), .int .i64 (low l : Int), .agg #[.int .i64 o, .int .u64 (hi : Int), .int .u64 (lo : Int), .int .i64 r]] W (fun e w' => e = .returned (.int .i64 code) ∧ Below W.heap.size W w')) :
    Calls Try.prog 45 #[.pointer (some ⟨A.g, 0, none⟩), .int .i64 p, .agg #[.int .i64 o, .int .u64 (hi : Int), .int .u64 (lo : Int)], .int .i64 r] w (Done w A kn mo ⟨0, code, X, l⟩) := by
  obtain ⟨w1, hw1⟩ : ∃ w1, w1 = w.alloc (Obj.cells #[.int .i64 o, .int .u64 (hi : Int), .int .u64 (lo : Int)] 33) := ⟨_, rfl⟩
  have hB1 : Below w.heap.size w w1 := by rw [hw1]; exact below1 _ _
  have hC : Hid (∀ U : World, Below w1.heap.size w1 U → (U.cell? ⟨w.heap.size, 0, none⟩ = some (.int .i64 o) ∧ U.cell? ⟨w.heap.size, 1, none⟩ = some (.int .u64 (hi : Int)) ∧ U.cell? ⟨w.heap.size, 2, none⟩ = some (.int .u64 (lo : Int))) ∧ Below w1.heap.size w1 U) := fun U hU =>
    ⟨⟨cell_later hU (by rw [hw1]; simp [go_sem]), cell_later hU (by rw [hw1]; simp [go_sem]), cell_later hU (by rw [hw1]; simp [go_sem])⟩, hU⟩
  have HG := hid (fun (U : World) (hU : Below w1.heap.size w1 U) => hG U (below_call hB1 hU))
  have hl := hid (lowest_any (h.cm.later hB1))
  have HB1 := hid hB1
  have HH := hid h
  have hbn : (code == 0) = false := by simp [hc]
  clear hG hB1 h
  go_enter Try.func45, Try.ntmps45
  go_upto_region 1 with fail
  rw [← hw1]
  clear hw1
  go_upto_region 2 with (first | (go_at_call 61; refine hl.out.mono ?_; rintro e w9 ⟨rfl, hw9⟩; obtain rfl := hw9.symm; clear hw9))
  go_region_held3 (fun U => (U.cell? ⟨w.heap.size, 0, none⟩ = some (.int .i64 o) ∧ U.cell? ⟨w.heap.size, 1, none⟩ = some (.int .u64 (hi : Int)) ∧ U.cell? ⟨w.heap.size, 2, none⟩ = some (.int .u64 (lo : Int))) ∧ Below w1.heap.size w1 U) (first | exact hC.out _ HB2.out | exact hC.out _ (Below.refl _ _).drew) (first
    | (go_at_call 62; refine (HG.out _ (Below.refl _ _).drew).mono ?_; rintro e w2 ⟨rfl, hb2⟩; have HB2 := hid (below_call (Below.refl w1.heap.size w1).drew hb2); clear hb2))
  go_wp2
  exact bodyPost_ret (v := .tuple #[.int .i64 0, .int .i64 code]) (by simp [results, Try.results45, go_sem]) rfl (Done.same HH.out (below_call HB1.out HB2.out))
set_option maxRecDepth 100000 in
set_option maxHeartbeats 2000000 in
theorem add_ok {w : World} {A : Ad} {kn mo : Nat} {X : List Tk} {l : Fo} (h : Cat w A kn mo X l) (p o : Int) (hi lo : Nat) (r : Int) (h1 : hi < B64) (h2 : lo < B64) (hc : hasC X l (o, hi, lo) = false) (hl : l.length < mo) (hv : validB r = true)
    (hp : (p = -1 ∧ hasO X l o = false) ∨ (p ∈ nums l ∧ ob X p = o ∧ partB r (rg X p) = true)) :
    Calls Try.prog 45 #[.pointer (some ⟨A.g, 0, none⟩), .int .i64 p, .agg #[.int .i64 o, .int .u64 (hi : Int), .int .u64 (lo : Int)], .int .i64 r] w (Done w A kn mo ⟨(low l : Int), 0, X.set (low l) ((o, hi, lo), r), l ++ [((low l : Int), p)]⟩) := by
  have hlow := low_lt h.inv.ok hl
  obtain ⟨w1, hw1⟩ : ∃ w1, w1 = w.alloc (Obj.cells #[.int .i64 o, .int .u64 (hi : Int), .int .u64 (lo : Int)] 33) := ⟨_, rfl⟩
  have hB1 : Below w.heap.size w w1 := by rw [hw1]; exact below1 _ _
  have hni : ∀ k, A.Wr k → k < w.heap.size := h.lt'
  have hC : Hid (∀ U : World, But A.Wr w1 U → (U.cell? ⟨w.heap.size, 0, none⟩ = some (.int .i64 o) ∧ U.cell? ⟨w.heap.size, 1, none⟩ = some (.int .u64 (hi : Int)) ∧ U.cell? ⟨w.heap.size, 2, none⟩ = some (.int .u64 (lo : Int))) ∧ But A.Wr w1 U) := fun U hU =>
    ⟨⟨cell_but hU (by rw [hw1]; simp [go_sem]) (fun hs => by have := hni _ hs; simp at this), cell_but hU (by rw [hw1]; simp [go_sem]) (fun hs => by have := hni _ hs; simp at this), cell_but hU (by rw [hw1]; simp [go_sem]) (fun hs => by have := hni _ hs; simp at this)⟩, hU⟩
  have hpl : p = -1 ∨ p ∈ nums l := hp.imp (·.1) (·.1)
  have hG := fun (U : World) (hU : Below w1.heap.size w1 U) => note_ok (h.cm.later (below_call hB1 hU)) (low l) hlow o hi lo r (fun W hW => I.put_ok ((h.cm.later (below_call hB1 hU)).tab.later hW) o hi lo (low l : Int) h1 h2 (fun hk => by rw [keys_iff.1 hk] at hc; cases hc) (by rw [pairs_len]; exact hl))
  have HE : Hid (pairs X l ++ [((o, hi, lo), (low l : Int))] = pairs (X.set (low l) ((o, hi, lo), r)) (l ++ [((low l : Int), p)])) := by
    unfold Hid
    have e1 : pairs (X.set (low l) ((o, hi, lo), r)) (l ++ [((low l : Int), p)]) = pairs (X.set (low l) ((o, hi, lo), r)) l ++ [((tk (X.set (low l) ((o, hi, lo), r)) (low l : Int)).1, (low l : Int))] := by simp [pairs]
    rw [e1, tk_set_same _ (by rw [h.inv.len]; exact hlow), pairs_ext (fun a ha => tk_set_other _ (nums_nn h.inv.ok ha) (fun e => low_not l (e ▸ ha)))]
  have HI := hid (h.inv.add (c := (o, hi, lo)) hlow (low_not l) hc ⟨h1, h2⟩ hv hp)
  have HJ := hid (fun (U : World) T (hU : Cm U A kn mo T (X.set (low l) ((o, hi, lo), r)) l) => join_any hU p (low l) hlow (low_not l) hpl)
  have HG := hid hG
  have hlo := hid (lowest_any (h.cm.later hB1))
  have HB1 := hid hB1
  clear hG hB1 h hp hpl hni hc hl
  go_enter Try.func45, Try.ntmps45
  go_upto_region 1 with fail
  rw [← hw1]
  clear hw1
  go_upto_region 2 with (first | (go_at_call 61; refine hlo.out.mono ?_; rintro e w9 ⟨rfl, hw9⟩; obtain rfl := hw9.symm; clear hw9))
  go_region_held3 (fun U => (U.cell? ⟨w.heap.size, 0, none⟩ = some (.int .i64 o) ∧ U.cell? ⟨w.heap.size, 1, none⟩ = some (.int .u64 (hi : Int)) ∧ U.cell? ⟨w.heap.size, 2, none⟩ = some (.int .u64 (lo : Int))) ∧ But A.Wr w1 U) (first | exact hC.out _ HB2.out | exact hC.out _ (But.of (Below.refl _ _).drew)) (first
    | (go_at_call 62; refine (HG.out _ (Below.refl _ _).drew).mono ?_; rintro e w2 ⟨rfl, hc2, hb2⟩; have HB2 := hid ((But.of (S := A.Wr) (Below.refl w1.heap.size w1).drew).trans hb2); have HC2 := hid hc2; clear hb2 hc2))
  go_wp2_with (first | (go_at_call 63; refine (HJ.out _ _ HC2.out).mono ?_; rintro e w3 ⟨rfl, hc3, hb3⟩; have HC3 := hid hc3; have HB3 := hid hb3; clear hc3 hb3))
  refine bodyPost_ret (v := .tuple #[.int .i64 (low l : Int), .int .i64 0]) (by simp [results, Try.results45, go_sem]) rfl ⟨rfl, ⟨?_, HI.out⟩, (But.of HB1.out).trans (HB2.out.trans HB3.out)⟩
  have := HC3.out
  rw [HE.out] at this
  exact this
theorem add_any {w : World} {A : Ad} {kn mo : Nat} {X : List Tk} {l : Fo} (h : Cat w A kn mo X l) (p : Int) (c : Cp) (r : Int) (hw : c.2.1 < B64 ∧ c.2.2 < B64) (hv : validB r = true)
    (hp : (p = -1 ∧ hasO X l c.1 = false) ∨ (p ∈ nums l ∧ ob X p = c.1 ∧ partB r (rg X p) = true)) :
    Calls Try.prog 45 #[.pointer (some ⟨A.g, 0, none⟩), .int .i64 p, cpV c, .int .i64 r] w (Done w A kn mo (addR mo X l p c r)) := by
  obtain ⟨o, hi, lo⟩ := c
  unfold addR
  by_cases hc : hasC X l (o, hi, lo) = true
  · rw [if_pos hc]
    exact add_no h p o hi lo r 19 (by decide) (fun W hW => note_no (h.cm.later hW) _ o hi lo r 19 (by decide) (fun U hU => I.put_there ((h.cm.later hW).tab.later hU) o hi lo _ hw.1 hw.2 (keys_iff.2 hc)))
  · rw [if_neg hc]
    have hk : (o, hi, lo) ∉ (pairs X l).map Prod.fst := fun hk => hc (keys_iff.1 hk)
    by_cases hl : l.length = mo
    · rw [if_pos hl]
      exact add_no h p o hi lo r 10 (by decide) (fun W hW => note_no (h.cm.later hW) _ o hi lo r 10 (by decide) (fun U hU => I.put_full ((h.cm.later hW).tab.later hU) o hi lo _ hw.1 hw.2 hk (by rw [pairs_len]; exact hl)))
    · rw [if_neg hl]
      have hle := h.inv.ok.len
      exact add_ok h p o hi lo r hw.1 hw.2 (by simpa using hc) (by omega) hv hp
/-- Is an object there, its root is. -/
theorem Inv.rootO {m : Nat} {X : List Tk} {l : Fo} (h : Inv m X l) {o : Int} : hasO X l o = true ↔ ∃ r, (r, -1) ∈ l ∧ ob X r = o := by
  rw [hasO_iff]
  constructor
  · rintro ⟨n, hn, rfl⟩
    obtain ⟨r, h1, h2, _⟩ := h.toRoot n hn
    exact ⟨r, h1, h2⟩
  · rintro ⟨r, h1, h2⟩
    exact ⟨r, mem_nums.2 ⟨_, h1⟩, h2⟩
set_option maxRecDepth 100000 in
set_option maxHeartbeats 2000000 in
theorem croot_of {w : World} {A : Ad} {kn mo : Nat} {X : List Tk} {l : Fo} (h : Cat w A kn mo X l) (c : Cp) (r : Int) (hw : c.2.1 < B64 ∧ c.2.2 < B64) :
    Calls Try.prog 23 #[.pointer (some ⟨A.g, 0, none⟩), cpV c, .int .i64 r] w (Done w A kn mo (rootR mo X l c r)) := by
  obtain ⟨o, hi, lo⟩ := c
  obtain ⟨w1, hw1⟩ : ∃ w1, w1 = w.alloc (Obj.cells #[.int .i64 o, .int .u64 (hi : Int), .int .u64 (lo : Int)] 33) := ⟨_, rfl⟩
  have hB1 : Below w.heap.size w w1 := by rw [hw1]; exact below1 _ _
  have z0 : w1.cell? ⟨w.heap.size, 0, none⟩ = some (.int .i64 o) := by rw [hw1]; simp [go_sem]
  have HZ : Hid (∀ U, Below w1.heap.size w1 U → U.cell? ⟨w.heap.size, 0, none⟩ = some (.int .i64 o) ∧ U.cell? ⟨w.heap.size, 1, none⟩ = some (.int .u64 (hi : Int)) ∧ U.cell? ⟨w.heap.size, 2, none⟩ = some (.int .u64 (lo : Int))) := fun U hU =>
    ⟨cell_later hU (by rw [hw1]; simp [go_sem]), cell_later hU (by rw [hw1]; simp [go_sem]), cell_later hU (by rw [hw1]; simp [go_sem])⟩
  have HB1 := hid hB1
  have HH := hid h
  have H1 := hid (h.later hB1)
  unfold rootR
  clear h hB1
  by_cases hv : validB r = true
  · rw [if_neg (by rw [hv]; decide)]
    by_cases ho : hasO X l o = true
    · rw [if_pos ho]
      go_enter Try.func23, Try.ntmps23
      go_upto_region 1 with fail
      rw [← hw1]
      clear hw1
      go_upto_region 4 with (first | (go_at_call 33; refine (croot_any H1.out.cm o).mono ?_; rintro e w2 ⟨⟨rt, hr1, hr2, rfl⟩ | ⟨hr1, rfl⟩, hb2⟩ <;> have HB2 := hid hb2 <;> clear hb2) | (go_at_call 44; refine (valid_any _ _).mono ?_; rintro e w9 ⟨rfl, hw9⟩; obtain rfl := hw9.symm; clear hw9; rw [hv]))
      · go_wp2
        exact bodyPost_ret (v := .tuple #[.int .i64 0, .int .i64 19]) (by simp [results, Try.results23, go_sem]) rfl (Done.same HH.out (below_call HB1.out HB2.out))
      · exfalso
        obtain ⟨r', h1, h2⟩ := HH.out.inv.rootO.1 ho
        exact hr1 r' h1 h2
    · rw [if_neg ho]
      have HA := hid (fun (U : World) (hU : Below w.heap.size w U) => add_any (HH.out.later hU) (-1) (o, hi, lo) r hw hv (.inl ⟨rfl, by simpa using ho⟩))
      go_enter Try.func23, Try.ntmps23
      go_upto_region 1 with fail
      rw [← hw1]
      clear hw1
      go_upto_region 4 with (first | (go_at_call 33; refine (croot_any H1.out.cm o).mono ?_; rintro e w2 ⟨⟨rt, hr1, hr2, rfl⟩ | ⟨hr1, rfl⟩, hb2⟩ <;> have HB2 := hid hb2 <;> clear hb2) | (go_at_call 44; refine (valid_any _ _).mono ?_; rintro e w9 ⟨rfl, hw9⟩; obtain rfl := hw9.symm; clear hw9; rw [hv]))
      · exfalso
        exact ho (HH.out.inv.rootO.2 ⟨rt, hr1, hr2⟩)
      · obtain ⟨y0, y1, y2⟩ := HZ.out _ HB2.out
        generalize addR mo X l (-1) (o, hi, lo) r = R at *
        go_wp2_with (first | (go_at_call 45; refine (HA.out _ (below_call HB1.out HB2.out)).mono ?_; rintro e w3 hd; have hd1 := hd.1; subst hd1; have HD := hid hd; clear hd))
        exact bodyPost_ret (v := .tuple #[.int .i64 R.num, .int .i64 R.code]) (by simp [results, Try.results23, go_sem]) rfl (HD.out.pre (below_call HB1.out HB2.out))
  · have hv' : validB r = false := by simpa using hv
    rw [if_pos hv']
    go_enter Try.func23, Try.ntmps23
    go_upto_region 1 with fail
    rw [← hw1]
    clear hw1
    go_wp2_with (first | (go_at_call 44; refine (valid_any _ _).mono ?_; rintro e w9 ⟨rfl, hw9⟩; obtain rfl := hw9.symm; clear hw9; rw [hv']))
    exact bodyPost_ret (v := .tuple #[.int .i64 0, .int .i64 4]) (by simp [results, Try.results23, go_sem]) rfl (Done.same HH.out HB1.out)
end Go.Proofs.Ytgdhdfmgfncdkaa
