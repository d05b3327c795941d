import Derived.Test.YticgammbjcdobaaQS
import Derived.Test.YticgammbjcdobaaQV
import Derived.Test.YticgammbjcdobaaOA
namespace Go.Proofs.Yticgammbjcdobaa
open Go.RowKit
set_option linter.unusedVariables false
set_option linter.unusedSimpArgs false
theorem honest_bk (m : Bm) (B : Bv) (x : Cq) (w : World) (h : Bk w m B) (hx : x.ok) :
    Calls Try.prog 14 #[.pointer (some ⟨m.g, 0, none⟩), x.v] w fun e w' => (∃ b, e = .returned (.bool b)) ∧ Below w.heap.size w w' := by
  cases hb : brB x.op x.gv with
  | false => exact (honest_no m x.L x.op x.gv w rfl rfl rfl hb).mono (fun e w' h1 => ⟨⟨_, h1.1⟩, h1.2⟩)
  | true => exact (honest_yes m x.L x.op x.b x.gv (tgV B x.b x.c).isSome x.c w rfl rfl rfl rfl rfl rfl rfl hb (fun U hU => told_bk m B x.b x.c U (h.later hU) hx.c hx.b)).mono (fun e w' h1 => ⟨⟨_, h1.1⟩, h1.2⟩)
/-- A call that came in, and a reply. -/
structure Ci where
  x : Cq
  bs : List Nat
  gs : List Int
structure Ri where
  cd : Int
  c : Cp
  d : Sl
  nu : Int
  rs : List Nat
structure Cin (w : World) (a : Option Addr) (X : List Ci) : Prop where
  at_ : ∀ i z, X[i]? = some z → ∃ b o, a = some ⟨b, o, none⟩ ∧ w.rangeAt b (o + i * 13) z.x.L
  ok : ∀ z ∈ X, z.x.ok ∧ Row w z.x.d.a z.x.d.n z.x.d.c z.bs ∧ RI w z.x.gs.a z.x.gs.n z.x.gs.c z.gs
structure Rin (w : World) (a : Option Addr) (Y : List Ri) : Prop where
  at_ : ∀ i z, Y[i]? = some z → ∃ b o, a = some ⟨b, o, none⟩ ∧ w.rangeAt b (o + i * 6) (rpL z.cd z.c z.d z.nu)
  ok : ∀ z ∈ Y, z.c.far ∧ I64 z.nu ∧ Row w z.d.a z.d.n z.d.c z.rs
def cost (z : Ci × Ri) : Nat := 3 + z.1.x.gs.n + z.2.d.n
def bud (X : List Ci) (Y : List Ri) (i : Nat) : Nat := (((X.zip Y).take i).map cost).sum
theorem bud_step (X : List Ci) (Y : List Ri) (i : Nat) (x : Ci) (y : Ri) (hx : X[i]? = some x) (hy : Y[i]? = some y) : bud X Y (i + 1) = bud X Y i + (3 + x.x.gs.n + y.d.n) := by
  have hz : (X.zip Y)[i]? = some (x, y) := by rw [List.getElem?_zip_eq_some]; exact ⟨hx, hy⟩
  obtain ⟨h1, h2⟩ := List.getElem?_eq_some_iff.1 hz
  unfold bud
  rw [List.take_succ_eq_append_getElem h1, h2]
  simp [cost]
theorem sum_take_le (l : List Nat) (i : Nat) : (l.take i).sum ≤ l.sum := by
  induction l generalizing i with
  | nil => simp
  | cons x l ih =>
    cases i with
    | zero => simp
    | succ i => simp only [List.take_succ_cons, List.sum_cons]; have := ih i; omega
theorem bud_le (X : List Ci) (Y : List Ri) (i : Nat) : bud X Y i ≤ ((X.zip Y).map cost).sum := by
  unfold bud
  rw [List.map_take]
  exact sum_take_le _ _
def EnRel (w : World) (g : Nat) (X : List Ci) (Y : List Ri) (vn vi : Value) (U : World) : Prop :=
  ∃ (i : Nat) (m : Bm) (B : Bv), vn = .int .i64 (i : Int) ∧ vi = .int .i64 (i : Int) ∧ i ≤ X.length ∧ i ≤ Y.length ∧ Bk U m B ∧ m.g = g ∧ B.n = (i : Int) ∧ Sz B (bud X Y i) ∧ (∀ j, Owb m j → w.heap.size ≤ j) ∧ Below w.heap.size w U
set_option maxRecDepth 100000 in
set_option maxHeartbeats 16000000 in
theorem ends_law (hrev : Rvk) (ca ra : Option Addr) (cc rc : Nat) (proc : Int) (X : List Ci) (Y : List Ri) (w : World) (hX : Cin w ca X) (hY : Rin w ra Y) (hp : I64 proc) (hl1 : X.length ≤ 1048576) (hl2 : Y.length ≤ 1048576) (hsum : ((X.zip Y).map cost).sum ≤ 20000000) (hbd : ∀ z ∈ X, z.x.d.n ≤ 1048576 ∧ z.x.gs.n ≤ 1048576) (hrd : ∀ z ∈ Y, z.d.n ≤ 1048576) :
    Calls Try.prog 4 #[.slice ca X.length cc, .slice ra Y.length rc, .int .i64 proc] w fun e w' => e = .returned (.bool true) ∧ Below w.heap.size w w' := by
  have HNw := hid (new_any w)
  have HAl := hid alive_any
  have HX := hid hX
  have HY := hid hY
  have HP := hid hp
  have HSm : Hid (∀ i, bud X Y i ≤ 20000000) := fun i => Nat.le_trans (bud_le X Y i) hsum
  have HBd := hid hbd
  have HRd := hid hrd
  have HRev := hid hrev
  obtain ⟨n, hn⟩ : ∃ n, n = X.length := ⟨_, rfl⟩
  obtain ⟨k, hk⟩ : ∃ k, k = Y.length := ⟨_, rfl⟩
  rw [← hn] at hl1
  rw [← hk] at hl2
  rw [← hn, ← hk]
  have HNl := hid hn
  have HKl := hid hk
  have hnl : (n : Int) ≤ 1048576 := by omega
  have hkl : (k : Int) ≤ 1048576 := by omega
  clear hX hY hp hsum hbd hrd hrev hn hk hl1 hl2
  go_enter Try.func4, Try.ntmps4
  go_upto_region 2 with (first | (go_at_call 5; refine HNw.out.mono ?_; rintro e V0 ⟨rfl, hbw0, hb0⟩; have HBw0 := hid hbw0; have HB0 := hid hb0; clear hbw0 hb0))
  go_wp2_with (first | (go_at_call 6; refine (HAl.out V0).mono ?_; rintro e V1 ⟨rfl, hb1⟩; have HB1 := hid hb1; clear hb1))
  have HBk0 : Hid (Bk V1 (m0 w.heap.size) ⟨0, fun _ _ => none, fun _ _ => none, fun _ _ => none, fun _ => [], fun _ => [], 0⟩) := ⟨HBw0.out.later HB1.out, rfl, Vw.nil, Vw.nil, Vw.nil, Vl.nil, Vl.nil, fun k hk => (by cases hk), fun g hg => (by cases hg)⟩
  have HBe1 : Hid (Below w.heap.size w V1) := below_call HB0.out HB1.out
  obtain ⟨gb, hgb⟩ : ∃ g, g = w.heap.size + 5 := ⟨_, rfl⟩
  rw [← hgb]
  have HGb := hid hgb
  clear hgb
  go_loopw [8, 9] (EnRel w gb X Y) (fun _ v _ => n - ivN v)
  case atStart =>
    refine ⟨0, m0 w.heap.size, _, rfl, rfl, Nat.zero_le _, Nat.zero_le _, HBk0.out, HGb.out.symm, rfl, ⟨fun p => Nat.zero_le _, fun p => Nat.zero_le _, fun p F ls e => (by cases e), fun o i ls e => (by cases e), Nat.zero_le _, Int.le_refl _, by simp⟩, fun j hj => ?_, HBe1.out⟩
    rcases hj with hj | ⟨y, hy, _⟩ | ⟨y, hy, _⟩
    · simp [Bm.blks] at hj
      omega
    · cases hy
    · cases hy
  case round =>
    obtain ⟨i, m1, B1, rfl, rfl, hin, hik, hb1, hg1, hn1, hs1, ho1, hbe1⟩ := hrel
    have HB1 := hid hb1
    have HG1 := hid hg1
    have HN1 := hid hn1
    have HS1 := hid hs1
    have HO1 := hid ho1
    have HBe := hid hbe1
    clear hb1 hg1 hn1 hs1 ho1 hbe1
    by_cases hi : i < n ∧ i < k
    · have hi1 : (i : Int) < (n : Int) := by omega
      have hi2 : (i : Int) < (k : Int) := by omega
      have hd1 : decide ((i : Int) < (n : Int)) = true := by simp; omega
      have hd2 : decide ((i : Int) < (k : Int)) = true := by simp; omega
      obtain ⟨x, hx⟩ : ∃ x, X[i]? = some x := ⟨_, List.getElem?_eq_getElem (by have := HNl.out; omega)⟩
      obtain ⟨y, hy⟩ : ∃ y, Y[i]? = some y := ⟨_, List.getElem?_eq_getElem (by have := HKl.out; omega)⟩
      obtain ⟨cb, cq, hca, hcr⟩ := HX.out.at_ i x hx
      obtain ⟨rb, rq, hra, hrr⟩ := HY.out.at_ i y hy
      obtain ⟨hxo, hxr, hxg⟩ := HX.out.ok x (List.mem_of_getElem? hx)
      obtain ⟨hyc, hyn, hyr⟩ := HY.out.ok y (List.mem_of_getElem? hy)
      have HBud : Hid (bud X Y (i + 1) = bud X Y i + (3 + x.x.gs.n + y.d.n)) := bud_step X Y i x y hx hy
      have hxb := HBd.out x (List.mem_of_getElem? hx)
      have hyb := HRd.out y (List.mem_of_getElem? hy)
      clear hx hy
      subst hca
      subst hra
      obtain ⟨⟨xop, xb, xsz, ⟨xo, xh, xl⟩, xgv, xrt, xoff, xnn, ⟨xda, xdn, xdc⟩, xix, ⟨xga, xgn, xgc⟩⟩, bs, gs⟩ := x
      obtain ⟨cd, ⟨o, ch, cl⟩, ⟨da, dn, dc⟩, nu, rs⟩ := y
      simp only at hcr hrr hxo hxr hxg hyc hyn hyr HBud hxb hyb
      have HS : Hid (∀ U, Below w.heap.size w U → (U.rangeAt cb (cq + i * 13) [.int .i64 xop, .int .i64 xb, .int .i64 xsz, .int .i64 xo, .int .u64 (xh : Int), .int .u64 (xl : Int), .bool xgv, .int .i64 xrt, .int .i64 xoff, .int .i64 xnn, .slice xda xdn xdc, .int .i64 xix, .slice xga xgn xgc] ∧ U.rangeAt rb (rq + i * 6) [.int .i64 cd, .int .i64 o, .int .u64 (ch : Int), .int .u64 (cl : Int), .slice da dn dc, .int .i64 nu])) := fun U hU => ⟨rangeAt_later hU hcr, rangeAt_later hU hrr⟩
      have HCp : Hid (∀ U, Below w.heap.size w U → Calls Try.prog 11 #[.agg #[.int .i64 xop, .int .i64 xb, .int .i64 xsz, .int .i64 xo, .int .u64 (xh : Int), .int .u64 (xl : Int), .bool xgv, .int .i64 xrt, .int .i64 xoff, .int .i64 xnn, .slice xda xdn xdc, .int .i64 xix, .slice xga xgn xgc]] U fun e w' => ∃ (d3a : Option Addr) (d3c : Nat) (g3a : Option Addr) (g3c : Nat), e = .returned (.agg #[.int .i64 xop, .int .i64 xb, .int .i64 xsz, .int .i64 xo, .int .u64 (xh : Int), .int .u64 (xl : Int), .bool xgv, .int .i64 xrt, .int .i64 xoff, .int .i64 xnn, .slice d3a xdn d3c, .int .i64 xix, .slice g3a xgn g3c]) ∧ Cn U w' (Cq.with ⟨xop, xb, xsz, ⟨xo, xh, xl⟩, xgv, xrt, xoff, xnn, ⟨xda, xdn, xdc⟩, xix, ⟨xga, xgn, xgc⟩⟩ ⟨d3a, xdn, d3c⟩ ⟨g3a, xgn, g3c⟩) bs gs ∧ Below U.heap.size U w') := fun U hU => (copied_any ⟨xop, xb, xsz, ⟨xo, xh, xl⟩, xgv, xrt, xoff, xnn, ⟨xda, xdn, xdc⟩, xix, ⟨xga, xgn, xgc⟩⟩ bs gs U (hxr.later hU) (hxg.later hU) (by simp only; omega) (by simp only; omega)).mono (fun e w' h => by
        obtain ⟨⟨d3a, d3n, d3c⟩, ⟨g3a, g3n, g3c⟩, h1, h2, h3, h4, h5⟩ := h
        simp only at h2 h3
        subst h2 h3
        exact ⟨d3a, d3c, g3a, g3c, h1, h4, h5⟩)
      have HAn : Hid (∀ U, Below w.heap.size w U → Calls Try.prog 12 #[.agg #[.int .i64 cd, .int .i64 o, .int .u64 (ch : Int), .int .u64 (cl : Int), .slice da dn dc, .int .i64 nu]] U fun e w' => ∃ (d4a : Option Addr) (d4c : Nat), e = .returned (.agg #[.int .i64 cd, .int .i64 o, .int .u64 (ch : Int), .int .u64 (cl : Int), .slice d4a dn d4c, .int .i64 nu]) ∧ Below U.heap.size U w') := fun U hU => (answered_any cd nu ⟨o, ch, cl⟩ ⟨da, dn, dc⟩ rs U (hyr.later hU) (by simp only; omega)).mono (fun e w' h => by
        obtain ⟨⟨d4a, d4n, d4c⟩, h1, h2, h3⟩ := h
        simp only at h2
        subst h2
        exact ⟨d4a, d4c, h1, h3⟩)
      have hsm := HSm.out i
      have HNt : Hid (∀ (U1 U2 U : World) (d3a : Option Addr) (d3c : Nat) (g3a : Option Addr) (g3c : Nat) (d4a : Option Addr) (d4c : Nat), Below wr.heap.size wr U1 → Cn U1 U2 (Cq.with ⟨xop, xb, xsz, ⟨xo, xh, xl⟩, xgv, xrt, xoff, xnn, ⟨xda, xdn, xdc⟩, xix, ⟨xga, xgn, xgc⟩⟩ ⟨d3a, xdn, d3c⟩ ⟨g3a, xgn, g3c⟩) bs gs → Below U2.heap.size U2 U → Below wr.heap.size wr U → Calls Try.prog 7 #[.pointer (some ⟨gb, 0, none⟩), .agg #[.int .i64 xop, .int .i64 xb, .int .i64 xsz, .int .i64 xo, .int .u64 (xh : Int), .int .u64 (xl : Int), .bool xgv, .int .i64 xrt, .int .i64 xoff, .int .i64 xnn, .slice d3a xdn d3c, .int .i64 xix, .slice g3a xgn g3c], .agg #[.int .i64 cd, .int .i64 o, .int .u64 (ch : Int), .int .u64 (cl : Int), .slice d4a dn d4c, .int .i64 nu]] U fun e w' => e = .returned (.tuple #[]) ∧ Nt U w' m1 B1 (bud X Y (i + 1))) := fun U1 U2 U d3a d3c g3a g3c d4a d4c hb1 hcn hb2 hb3 => by
        have hlt := HB1.out.bw.own_lt
        have ha : NtA U m1 B1 (Cq.with ⟨xop, xb, xsz, ⟨xo, xh, xl⟩, xgv, xrt, xoff, xnn, ⟨xda, xdn, xdc⟩, xix, ⟨xga, xgn, xgc⟩⟩ ⟨d3a, xdn, d3c⟩ ⟨g3a, xgn, g3c⟩) ⟨o, ch, cl⟩ ⟨d4a, dn, d4c⟩ nu bs gs (bud X Y i) := ⟨HB1.out.later hb3, ⟨hxo.op, hxo.b, hxo.c, hxo.rt, hxo.off, hxo.ix⟩, hyc, hyn, HS1.out, by simp only; omega, hcn.d.later hb2, fun j hj => by have h1 := hcn.db j hj; exact ⟨Nat.lt_of_lt_of_le h1.2 hb2.size, fun hs => by have := hlt j hs; have := hb1.size; omega⟩, hcn.dc, hcn.g.later hb2, fun j hj => by have h1 := hcn.gb j hj; exact ⟨Nat.lt_of_lt_of_le h1.2 hb2.size, fun hs => by have := hlt j hs; have := hb1.size; omega⟩⟩
        have := note_any HRev.out m1 B1 (Cq.with ⟨xop, xb, xsz, ⟨xo, xh, xl⟩, xgv, xrt, xoff, xnn, ⟨xda, xdn, xdc⟩, xix, ⟨xga, xgn, xgc⟩⟩ ⟨d3a, xdn, d3c⟩ ⟨g3a, xgn, g3c⟩) cd nu ⟨o, ch, cl⟩ ⟨d4a, dn, d4c⟩ bs gs (bud X Y i) U ha
        rw [HG1.out] at this
        rw [HBud.out]
        refine this.mono (fun e w' h1 => ⟨h1.1, ?_⟩)
        have h2 := h1.2
        simp only at h2
        rw [show bud X Y i + 3 + xgn + dn = bud X Y i + (3 + xgn + dn) by omega] at h2
        exact h2
      have HXo := hid hxo
      have HYc := hid hyc
      clear hcr hrr hxo hxr hxg hyc hyn hyr HBud hxb hyb hsm
      go_upto_region 8 with fail
      refine wp_region_held_drew (S := (fun U : World => U.rangeAt cb (cq + i * 13) [.int .i64 xop, .int .i64 xb, .int .i64 xsz, .int .i64 xo, .int .u64 (xh : Int), .int .u64 (xl : Int), .bool xgv, .int .i64 xrt, .int .i64 xoff, .int .i64 xnn, .slice xda xdn xdc, .int .i64 xix, .slice xga xgn xgc] ∧ U.rangeAt rb (rq + i * 6) [.int .i64 cd, .int .i64 o, .int .u64 (ch : Int), .int .u64 (cl : Int), .slice da dn dc, .int .i64 nu])) (by kernel_rfl) (HS.out _ HBe.out.drew) (fun hHeld => ?_)
      refine wpAnyH_norm (l2 := #[false, false, false, false, false, false, false, false, false, false, false, false]) (f2 := 12) (by kernel_rfl) (by kernel_rfl) ?_
      refine wpAnyH_take (i := 0) (oi := _) (v := ?_) rfl (by kernel_rfl) (by kernel_rfl) (by kernel_rfl) (fun _ _ _ h => h) (Or.inl ⟨by rfl, ?_⟩) (by assumption) ?_
      rotate_left
      · (intro w hSw; (try dsimp only at hSw); go_simp; try with_reducible rfl)
      simp only [List.getElem_toArray, List.getElem_cons_succ, List.getElem_cons_zero, Act.put, List.setIfInBounds_toArray, List.set_cons_zero, List.set_cons_succ]
      refine wpAnyH_norm (l2 := #[true, false, false, false, false, false, false, false, false, false, false, false]) (f2 := 11) (by kernel_rfl) (by kernel_rfl) ?_
      refine wpAnyH_take (i := 1) (oi := _) (v := ?_) rfl (by kernel_rfl) (by kernel_rfl) (by kernel_rfl) (fun _ _ _ h => h) (Or.inl ⟨by rfl, ?_⟩) (by assumption) ?_
      rotate_left
      · (intro w hSw; (try dsimp only at hSw); go_simp; try with_reducible rfl)
      simp only [List.getElem_toArray, List.getElem_cons_succ, List.getElem_cons_zero, Act.put, List.setIfInBounds_toArray, List.set_cons_zero, List.set_cons_succ]
      refine wpAnyH_norm (l2 := #[true, true, false, false, false, false, false, false, false, false, false, false]) (f2 := 10) (by kernel_rfl) (by kernel_rfl) ?_
      refine wpAnyH_take (i := 2) (oi := _) (v := ?_) rfl (by kernel_rfl) (by kernel_rfl) (by kernel_rfl) (fun _ _ _ h => h) (Or.inl ⟨by rfl, ?_⟩) (by assumption) ?_
      rotate_left
      · (intro w hSw; (try dsimp only at hSw); go_simp; try with_reducible rfl)
      simp only [List.getElem_toArray, List.getElem_cons_succ, List.getElem_cons_zero, Act.put, List.setIfInBounds_toArray, List.set_cons_zero, List.set_cons_succ]
      refine wpAnyH_norm (l2 := #[true, true, true, false, false, false, false, false, false, false, false, false]) (f2 := 9) (by kernel_rfl) (by kernel_rfl) ?_
      refine wpAnyH_take (i := 3) (oi := _) (v := ?_) rfl (by kernel_rfl) (by kernel_rfl) (by kernel_rfl) (fun _ _ _ h => h) (Or.inl ⟨by rfl, ?_⟩) (by assumption) ?_
      rotate_left
      · (intro w hSw; (try dsimp only at hSw); go_simp; try with_reducible rfl)
      simp only [List.getElem_toArray, List.getElem_cons_succ, List.getElem_cons_zero, Act.put, List.setIfInBounds_toArray, List.set_cons_zero, List.set_cons_succ]
      refine wpAnyH_norm (l2 := #[true, true, true, true, false, false, false, false, false, false, false, false]) (f2 := 8) (by kernel_rfl) (by kernel_rfl) ?_
      refine wpAnyH_take (i := 4) (oi := _) (v := .agg #[.int .i64 xop, .int .i64 xb, .int .i64 xsz, .int .i64 xo, .int .u64 (xh : Int), .int .u64 (xl : Int), .bool xgv, .int .i64 xrt, .int .i64 xoff, .int .i64 xnn, .slice xda xdn xdc, .int .i64 xix, .slice xga xgn xgc]) rfl (by kernel_rfl) (by kernel_rfl) (by kernel_rfl) (fun _ _ _ h => h) (Or.inl ⟨by rfl, ?_⟩) (by assumption) ?_
      · (intro w hSw; (try dsimp only at hSw); exact ex_ld rfl rfl (ldCl hSw.1 rfl))
      simp only [List.getElem_toArray, List.getElem_cons_succ, List.getElem_cons_zero, Act.put, List.setIfInBounds_toArray, List.set_cons_zero, List.set_cons_succ]
      refine wpAnyH_norm (l2 := #[true, true, true, true, true, false, false, false, false, false, false, false]) (f2 := 7) (by kernel_rfl) (by kernel_rfl) ?_
      refine wpAnyH_take (i := 6) (oi := _) (v := ?_) rfl (by kernel_rfl) (by kernel_rfl) (by kernel_rfl) (fun _ _ _ h => h) (Or.inl ⟨by rfl, ?_⟩) (by assumption) ?_
      rotate_left
      · (intro w hSw; (try dsimp only at hSw); go_simp; try with_reducible rfl)
      simp only [List.getElem_toArray, List.getElem_cons_succ, List.getElem_cons_zero, Act.put, List.setIfInBounds_toArray, List.set_cons_zero, List.set_cons_succ]
      refine wpAnyH_norm (l2 := #[true, true, true, true, true, false, true, false, false, false, false, false]) (f2 := 6) (by kernel_rfl) (by kernel_rfl) ?_
      refine wpAnyH_take (i := 7) (oi := _) (v := ?_) rfl (by kernel_rfl) (by kernel_rfl) (by kernel_rfl) (fun _ _ _ h => h) (Or.inl ⟨by rfl, ?_⟩) (by assumption) ?_
      rotate_left
      · (intro w hSw; (try dsimp only at hSw); go_simp; try with_reducible rfl)
      simp only [List.getElem_toArray, List.getElem_cons_succ, List.getElem_cons_zero, Act.put, List.setIfInBounds_toArray, List.set_cons_zero, List.set_cons_succ]
      refine wpAnyH_norm (l2 := #[true, true, true, true, true, false, true, true, false, false, false, false]) (f2 := 5) (by kernel_rfl) (by kernel_rfl) ?_
      refine wpAnyH_take (i := 8) (oi := _) (v := ?_) rfl (by kernel_rfl) (by kernel_rfl) (by kernel_rfl) (fun _ _ _ h => h) (Or.inl ⟨by rfl, ?_⟩) (by assumption) ?_
      rotate_left
      · (intro w hSw; (try dsimp only at hSw); go_simp; try with_reducible rfl)
      simp only [List.getElem_toArray, List.getElem_cons_succ, List.getElem_cons_zero, Act.put, List.setIfInBounds_toArray, List.set_cons_zero, List.set_cons_succ]
      refine wpAnyH_norm (l2 := #[true, true, true, true, true, false, true, true, true, false, false, false]) (f2 := 4) (by kernel_rfl) (by kernel_rfl) ?_
      refine wpAnyH_take (i := 9) (oi := _) (v := .agg #[.int .i64 cd, .int .i64 o, .int .u64 (ch : Int), .int .u64 (cl : Int), .slice da dn dc, .int .i64 nu]) rfl (by kernel_rfl) (by kernel_rfl) (by kernel_rfl) (fun _ _ _ h => h) (Or.inl ⟨by rfl, ?_⟩) (by assumption) ?_
      · (intro w hSw; (try dsimp only at hSw); exact ex_ld rfl rfl (ldRp hSw.2 rfl))
      simp only [List.getElem_toArray, List.getElem_cons_succ, List.getElem_cons_zero, Act.put, List.setIfInBounds_toArray, List.set_cons_zero, List.set_cons_succ]
      refine wpAnyH_norm (l2 := #[true, true, true, true, true, false, true, true, true, true, false, false]) (f2 := 3) (by kernel_rfl) (by kernel_rfl) ?_
      refine wpAnyH_ready (rs := [5]) (by kernel_rfl) (by simp) ?_
      refine AllReadyH.cons rfl (fun K hK => ?_) AllReadyH.nil
      go_simp
      go_wp2_with (first | (go_at_call 11; refine (HCp.out _ HBe.out.drew).mono ?_; rintro e w3 ⟨d3a, d3c, g3a, g3c, rfl, hcn3, hb3⟩))
      have HC3 := hid hcn3
      have HB3 : Hid (Below wr.heap.size wr w3) := below_call (Below.refl _ _).drew hb3
      have HBw3 : Hid (Below w.heap.size w w3) := below_call HBe.out HB3.out
      clear hcn3 hb3
      refine hK.out _ _ (HS.out _ HBw3.out) (fun hHeld => ?_)
      clear hK K
      simp only [List.getElem_toArray, List.getElem_cons_succ, List.getElem_cons_zero, Act.put, List.setIfInBounds_toArray, List.set_cons_zero, List.set_cons_succ]
      refine wpAnyH_norm (l2 := #[true, true, true, true, true, true, true, true, true, true, false, false]) (f2 := 2) (by kernel_rfl) (by kernel_rfl) ?_
      refine wpAnyH_ready (rs := [10]) (by kernel_rfl) (by simp) ?_
      refine AllReadyH.cons rfl (fun K hK => ?_) AllReadyH.nil
      go_simp
      go_wp2_with (first | (go_at_call 12; refine (HAn.out _ HBw3.out).mono ?_; rintro e w4 ⟨d4a, d4c, rfl, hb4⟩))
      have HB4 := hid hb4
      have HBw4 : Hid (Below w.heap.size w w4) := below_call HBw3.out hb4
      clear hb4
      refine hK.out _ _ (HS.out _ HBw4.out) (fun hHeld => ?_)
      clear hK K
      simp only [List.getElem_toArray, List.getElem_cons_succ, List.getElem_cons_zero, Act.put, List.setIfInBounds_toArray, List.set_cons_zero, List.set_cons_succ]
      refine wpAnyH_norm (l2 := #[true, true, true, true, true, true, true, true, true, true, true, false]) (f2 := 1) (by kernel_rfl) (by kernel_rfl) ?_
      refine wpAnyH_ready (rs := [11]) (by kernel_rfl) (by simp) ?_
      refine AllReadyH.cons rfl (fun K hK => ?_) AllReadyH.nil
      go_simp
      go_wp2_with (first | (go_at_call 7; refine (HNt.out _ w3 w4 d3a d3c g3a g3c d4a d4c (Below.refl _ _).drew HC3.out HB4.out (below_call HB3.out HB4.out)).mono ?_; rintro e w5 ⟨rfl, hnt⟩))
      have HNT := hid hnt
      have HBq : Hid (Below w.heap.size w w5) := by obtain ⟨m2, B2, _, ht2, _, _⟩ := hnt; exact But.below HBw4.out ht2.bt (fun j hj => HO1.out j hj)
      clear hnt
      refine hK.out _ _ (HS.out _ HBq.out) (fun hHeld => ?_)
      clear hK K
      simp only [List.getElem_toArray, List.getElem_cons_succ, List.getElem_cons_zero, Act.put, List.setIfInBounds_toArray, List.set_cons_zero, List.set_cons_succ]
      refine wpAnyH_norm (l2 := #[true, true, true, true, true, true, true, true, true, true, true, true]) (f2 := 0) (by kernel_rfl) (by kernel_rfl) ?_
      refine wpAnyH_done (by kernel_rfl) ?_ _
      obtain ⟨m2, B2, hb2, ht2, hs2, hn2⟩ := HNT.out
      have HB2 := hid hb2
      have HS2 := hid hs2
      have HN2 : Hid (B2.n = ((i + 1 : Nat) : Int)) := by unfold Hid; rw [hn2, HN1.out]; omega
      have HG2 : Hid (m2.g = gb) := ht2.g.trans HG1.out
      have HO2 : Hid (∀ j, Owb m2 j → w.heap.size ≤ j) := fun j hj => by
        rcases ht2.gr j hj with h1 | h1
        · exact HO1.out j h1
        · exact Nat.le_trans HBw4.out.size h1
      have HBw5 : Hid (Below w.heap.size w w5) := But.below HBw4.out ht2.bt (fun j hj => HO1.out j hj)
      clear hb2 ht2 hs2 hn2 HNT
      have hsm := HSm.out (i + 1)
      have HSh : Hid (∀ U, Below w5.heap.size w5 U → Calls Try.prog 13 #[.pointer (some ⟨gb, 0, none⟩), .agg #[.int .i64 xop, .int .i64 xb, .int .i64 xsz, .int .i64 xo, .int .u64 (xh : Int), .int .u64 (xl : Int), .bool xgv, .int .i64 xrt, .int .i64 xoff, .int .i64 xnn, .slice xda xdn xdc, .int .i64 xix, .slice xga xgn xgc]] U fun e w' => (∃ v b, e = .returned (.tuple #[v, .bool b])) ∧ Below U.heap.size U w') := fun U hU => by have := shown_bk m2 B2 ⟨xop, xb, xsz, ⟨xo, xh, xl⟩, xgv, xrt, xoff, xnn, ⟨xda, xdn, xdc⟩, xix, ⟨xga, xgn, xgc⟩⟩ U (HB2.out.later hU) HXo.out (by have := HS2.out.lists xb; simp only; omega); rwa [HG2.out] at this
      have HHo : Hid (∀ U, Below w5.heap.size w5 U → Calls Try.prog 14 #[.pointer (some ⟨gb, 0, none⟩), .agg #[.int .i64 xop, .int .i64 xb, .int .i64 xsz, .int .i64 xo, .int .u64 (xh : Int), .int .u64 (xl : Int), .bool xgv, .int .i64 xrt, .int .i64 xoff, .int .i64 xnn, .slice xda xdn xdc, .int .i64 xix, .slice xga xgn xgc]] U fun e w' => (∃ b, e = .returned (.bool b)) ∧ Below U.heap.size U w') := fun U hU => by have := honest_bk m2 B2 ⟨xop, xb, xsz, ⟨xo, xh, xl⟩, xgv, xrt, xoff, xnn, ⟨xda, xdn, xdc⟩, xix, ⟨xga, xgn, xgc⟩⟩ U (HB2.out.later hU) HXo.out; rwa [HG2.out] at this
      have HRi : Hid (∃ r ok, ∀ U, Below w5.heap.size w5 U → Calls Try.prog 15 #[.pointer (some ⟨gb, 0, none⟩), .agg #[.int .i64 xo, .int .u64 (xh : Int), .int .u64 (xl : Int)]] U fun e w' => e = .returned (.tuple #[.int .i64 r, .bool ok]) ∧ Below U.heap.size U w') := by obtain ⟨r, ok, _, _, h⟩ := rights_bk m2 B2 ⟨xo, xh, xl⟩ w5 HB2.out HXo.out.c; rw [HG2.out] at h; exact ⟨r, ok, h⟩
      obtain ⟨rr, rok, hri⟩ := HRi.out
      have HRi2 := hid hri
      clear hri HRi
      have HTo : Hid (∀ U, Below w5.heap.size w5 U → Calls Try.prog 16 #[.pointer (some ⟨gb, 0, none⟩), .int .i64 xb, .agg #[.int .i64 xo, .int .u64 (xh : Int), .int .u64 (xl : Int)]] U fun e w' => e = .returned (.bool (tgV B2 xb ⟨xo, xh, xl⟩).isSome) ∧ Below U.heap.size U w') := fun U hU => by have := told_bk m2 B2 xb ⟨xo, xh, xl⟩ U (HB2.out.later hU) HXo.out.c HXo.out.b; rwa [HG2.out] at this
      have HWa : Hid (∀ (U : World) (p : Int) (c : Cp), I64 p → c.far → Below w5.heap.size w5 U → Calls Try.prog 10 #[.pointer (some ⟨gb, 0, none⟩), .int .i64 p, capV c] U fun e w' => (∃ v b, e = .returned (.tuple #[v, .bool b])) ∧ Below U.heap.size U w') := fun U p c hp hc hU => by
        have h1 := way_bk m2 B2 p c U (HB2.out.later hU) hc hp (by have := HS2.out.tg p c; omega)
        rw [HG2.out] at h1
        exact h1.mono (fun e w' h2 => by obtain ⟨a', c', h3, _, h4⟩ := h2; exact ⟨⟨_, _, h3⟩, h4⟩)
      have HKn : Hid (∀ U, Below w5.heap.size w5 U → Calls Try.prog 8 #[.pointer (some ⟨gb, 0, none⟩), .int .i64 proc] U fun e w' => (∃ v, e = .returned v) ∧ Below U.heap.size U w') := fun U hU => by
        have h1 := known_bk m2 B2 proc U (HB2.out.later hU) HP.out (by have := HS2.out.known proc; omega)
        rw [HG2.out] at h1
        exact h1.mono (fun e w' h2 => by obtain ⟨a', c', h3, _, h4⟩ := h2; exact ⟨⟨_, h3⟩, h4⟩)
      clear hsm
      have HBc5 : Hid (Below w5.heap.size w5 w5) := Below.refl _ _
      have HBx5 : Hid (Below w.heap.size w w5) := below_call HBw5.out HBc5.out
      have HLD5 := hid (ldCl (HS.out _ HBx5.out).1 rfl)
      go_upto_region 11 with (first | ((with_reducible refine ld_arm HLD5.out ?_ ?_); (· rfl)) | (go_at_call 13; refine (HSh.out _ HBc5.out).mono ?_; rintro e w6 ⟨⟨v_, b_, rfl⟩, hbz⟩; have HBc6 : Hid (Below w5.heap.size w5 w6) := below_call HBc5.out hbz; clear hbz))
      clear HLD5 
      have HBx6 : Hid (Below w.heap.size w w6) := below_call HBw5.out HBc6.out
      have HLD6 := hid (ldCl (HS.out _ HBx6.out).1 rfl)
      go_upto_region 12 with (first | ((with_reducible refine ld_arm HLD6.out ?_ ?_); (· rfl)) | (go_at_call 14; refine (HHo.out _ HBc6.out).mono ?_; rintro e w7 ⟨⟨b_, rfl⟩, hbz⟩; have HBc7 : Hid (Below w5.heap.size w5 w7) := below_call HBc6.out hbz; clear hbz))
      clear HLD6 
      have HBx7 : Hid (Below w.heap.size w w7) := below_call HBw5.out HBc7.out
      have HLD7 := hid (ldCl (HS.out _ HBx7.out).1 rfl)
      have x3 := (HS.out _ HBx7.out).1 3 _ rfl
      have x4 := (HS.out _ HBx7.out).1 4 _ rfl
      have x5 := (HS.out _ HBx7.out).1 5 _ rfl
      go_upto_region 13 with (first | ((with_reducible refine ld_arm HLD7.out ?_ ?_); (· rfl)) | (go_at_call 15; refine (HRi2.out _ HBc7.out).mono ?_; rintro e w8 ⟨rfl, hbz⟩; have HBc8 : Hid (Below w5.heap.size w5 w8) := below_call HBc7.out hbz; clear hbz))
      clear HLD7 x3 x4 x5
      have HBx8 : Hid (Below w.heap.size w w8) := below_call HBw5.out HBc8.out
      go_upto_region 13 with fail
      refine wp_region_held_drew (S := (fun U : World => U.rangeAt cb (cq + i * 13) [.int .i64 xop, .int .i64 xb, .int .i64 xsz, .int .i64 xo, .int .u64 (xh : Int), .int .u64 (xl : Int), .bool xgv, .int .i64 xrt, .int .i64 xoff, .int .i64 xnn, .slice xda xdn xdc, .int .i64 xix, .slice xga xgn xgc] ∧ U.rangeAt rb (rq + i * 6) [.int .i64 cd, .int .i64 o, .int .u64 (ch : Int), .int .u64 (cl : Int), .slice da dn dc, .int .i64 nu])) (by kernel_rfl) (HS.out _ HBx8.out.drew) (fun hHeld => ?_)
      refine wpAnyH_norm (l2 := #[false, false, false, false, false, false, false, false, false, false, false, false]) (f2 := 12) (by kernel_rfl) (by kernel_rfl) ?_
      refine wpAnyH_take (i := 0) (oi := _) (v := ?_) rfl (by kernel_rfl) (by kernel_rfl) (by kernel_rfl) (fun _ _ _ h => h) (Or.inl ⟨by rfl, ?_⟩) (by assumption) ?_
      rotate_left
      · (intro w hSw; (try dsimp only at hSw); go_simp; try with_reducible rfl)
      simp only [List.getElem_toArray, List.getElem_cons_succ, List.getElem_cons_zero, Act.put, List.setIfInBounds_toArray, List.set_cons_zero, List.set_cons_succ]
      refine wpAnyH_norm (l2 := #[true, false, false, false, false, false, false, false, false, false, false, false]) (f2 := 11) (by kernel_rfl) (by kernel_rfl) ?_
      refine wpAnyH_take (i := 1) (oi := _) (v := ?_) rfl (by kernel_rfl) (by kernel_rfl) (by kernel_rfl) (fun _ _ _ h => h) (Or.inl ⟨by rfl, ?_⟩) (by assumption) ?_
      rotate_left
      · (intro w hSw; (try dsimp only at hSw); go_simp; try with_reducible rfl)
      simp only [List.getElem_toArray, List.getElem_cons_succ, List.getElem_cons_zero, Act.put, List.setIfInBounds_toArray, List.set_cons_zero, List.set_cons_succ]
      refine wpAnyH_norm (l2 := #[true, true, false, false, false, false, false, false, false, false, false, false]) (f2 := 10) (by kernel_rfl) (by kernel_rfl) ?_
      refine wpAnyH_take (i := 2) (oi := _) (v := ?_) rfl (by kernel_rfl) (by kernel_rfl) (by kernel_rfl) (fun _ _ _ h => h) (Or.inl ⟨by rfl, ?_⟩) (by assumption) ?_
      rotate_left
      · (intro w hSw; (try dsimp only at hSw); go_simp; try with_reducible rfl)
      simp only [List.getElem_toArray, List.getElem_cons_succ, List.getElem_cons_zero, Act.put, List.setIfInBounds_toArray, List.set_cons_zero, List.set_cons_succ]
      refine wpAnyH_norm (l2 := #[true, true, true, false, false, false, false, false, false, false, false, false]) (f2 := 9) (by kernel_rfl) (by kernel_rfl) ?_
      refine wpAnyH_take (i := 3) (oi := _) (v := ?_) rfl (by kernel_rfl) (by kernel_rfl) (by kernel_rfl) (fun _ _ _ h => h) (Or.inl ⟨by rfl, ?_⟩) (by assumption) ?_
      rotate_left
      · (intro w hSw; (try dsimp only at hSw); go_simp; try with_reducible rfl)
      simp only [List.getElem_toArray, List.getElem_cons_succ, List.getElem_cons_zero, Act.put, List.setIfInBounds_toArray, List.set_cons_zero, List.set_cons_succ]
      refine wpAnyH_norm (l2 := #[true, true, true, true, false, false, false, false, false, false, false, false]) (f2 := 8) (by kernel_rfl) (by kernel_rfl) ?_
      refine wpAnyH_take (i := 4) (oi := _) (v := ?_) rfl (by kernel_rfl) (by kernel_rfl) (by kernel_rfl) (fun _ _ _ h => h) (Or.inl ⟨by rfl, ?_⟩) (by assumption) ?_
      rotate_left
      · (intro w hSw; (try dsimp only at hSw); go_simp; try with_reducible rfl)
      simp only [List.getElem_toArray, List.getElem_cons_succ, List.getElem_cons_zero, Act.put, List.setIfInBounds_toArray, List.set_cons_zero, List.set_cons_succ]
      refine wpAnyH_norm (l2 := #[true, true, true, true, true, false, false, false, false, false, false, false]) (f2 := 7) (by kernel_rfl) (by kernel_rfl) ?_
      refine wpAnyH_take (i := 5) (oi := _) (v := ?_) rfl (by kernel_rfl) (by kernel_rfl) (by kernel_rfl) (fun _ _ _ h => h) (Or.inl ⟨by rfl, ?_⟩) (by assumption) ?_
      rotate_left
      · (intro w hSw; have z1 := hSw.1 1 _ rfl; go_simp; try with_reducible rfl)
      simp only [List.getElem_toArray, List.getElem_cons_succ, List.getElem_cons_zero, Act.put, List.setIfInBounds_toArray, List.set_cons_zero, List.set_cons_succ]
      refine wpAnyH_norm (l2 := #[true, true, true, true, true, true, false, false, false, false, false, false]) (f2 := 6) (by kernel_rfl) (by kernel_rfl) ?_
      refine wpAnyH_take (i := 6) (oi := _) (v := ?_) rfl (by kernel_rfl) (by kernel_rfl) (by kernel_rfl) (fun _ _ _ h => h) (Or.inl ⟨by rfl, ?_⟩) (by assumption) ?_
      rotate_left
      · (intro w hSw; (try dsimp only at hSw); go_simp; try with_reducible rfl)
      simp only [List.getElem_toArray, List.getElem_cons_succ, List.getElem_cons_zero, Act.put, List.setIfInBounds_toArray, List.set_cons_zero, List.set_cons_succ]
      refine wpAnyH_norm (l2 := #[true, true, true, true, true, true, true, false, false, false, false, false]) (f2 := 5) (by kernel_rfl) (by kernel_rfl) ?_
      refine wpAnyH_take (i := 7) (oi := _) (v := ?_) rfl (by kernel_rfl) (by kernel_rfl) (by kernel_rfl) (fun _ _ _ h => h) (Or.inl ⟨by rfl, ?_⟩) (by assumption) ?_
      rotate_left
      · (intro w hSw; (try dsimp only at hSw); go_simp; try with_reducible rfl)
      simp only [List.getElem_toArray, List.getElem_cons_succ, List.getElem_cons_zero, Act.put, List.setIfInBounds_toArray, List.set_cons_zero, List.set_cons_succ]
      refine wpAnyH_norm (l2 := #[true, true, true, true, true, true, true, true, false, false, false, false]) (f2 := 4) (by kernel_rfl) (by kernel_rfl) ?_
      refine wpAnyH_take (i := 8) (oi := _) (v := ?_) rfl (by kernel_rfl) (by kernel_rfl) (by kernel_rfl) (fun _ _ _ h => h) (Or.inl ⟨by rfl, ?_⟩) (by assumption) ?_
      rotate_left
      · (intro w hSw; (try dsimp only at hSw); go_simp; try with_reducible rfl)
      simp only [List.getElem_toArray, List.getElem_cons_succ, List.getElem_cons_zero, Act.put, List.setIfInBounds_toArray, List.set_cons_zero, List.set_cons_succ]
      refine wpAnyH_norm (l2 := #[true, true, true, true, true, true, true, true, true, false, false, false]) (f2 := 3) (by kernel_rfl) (by kernel_rfl) ?_
      refine wpAnyH_take (i := 9) (oi := _) (v := ?_) rfl (by kernel_rfl) (by kernel_rfl) (by kernel_rfl) (fun _ _ _ h => h) (Or.inl ⟨by rfl, ?_⟩) (by assumption) ?_
      rotate_left
      · (intro w hSw; (try dsimp only at hSw); go_simp; try with_reducible rfl)
      simp only [List.getElem_toArray, List.getElem_cons_succ, List.getElem_cons_zero, Act.put, List.setIfInBounds_toArray, List.set_cons_zero, List.set_cons_succ]
      refine wpAnyH_norm (l2 := #[true, true, true, true, true, true, true, true, true, true, false, false]) (f2 := 2) (by kernel_rfl) (by kernel_rfl) ?_
      refine wpAnyH_take (i := 10) (oi := _) (v := ?_) rfl (by kernel_rfl) (by kernel_rfl) (by kernel_rfl) (fun _ _ _ h => h) (Or.inl ⟨by rfl, ?_⟩) (by assumption) ?_
      rotate_left
      · (intro w hSw; have z3 := hSw.1 3 _ rfl; have z4 := hSw.1 4 _ rfl; have z5 := hSw.1 5 _ rfl; go_simp; try with_reducible rfl)
      simp only [List.getElem_toArray, List.getElem_cons_succ, List.getElem_cons_zero, Act.put, List.setIfInBounds_toArray, List.set_cons_zero, List.set_cons_succ]
      refine wpAnyH_norm (l2 := #[true, true, true, true, true, true, true, true, true, true, true, false]) (f2 := 1) (by kernel_rfl) (by kernel_rfl) ?_
      refine wpAnyH_ready (rs := [11]) (by kernel_rfl) (by simp) ?_
      refine AllReadyH.cons rfl (fun K hK => ?_) AllReadyH.nil
      go_simp
      go_wp2_with (first | (go_at_call 16; refine (HTo.out _ HBc8.out.drew).mono ?_; rintro e w9 ⟨rfl, hbz⟩; have HBc9 : Hid (Below w5.heap.size w5 w9) := below_call (HBc8.out.drew) hbz; clear hbz))
      have HBx9 : Hid (Below w.heap.size w w9) := below_call HBw5.out HBc9.out
      refine hK.out _ _ (HS.out _ HBx9.out) (fun hHeld => ?_)
      clear hK K
      simp only [List.getElem_toArray, List.getElem_cons_succ, List.getElem_cons_zero, Act.put, List.setIfInBounds_toArray, List.set_cons_zero, List.set_cons_succ]
      refine wpAnyH_norm (l2 := #[true, true, true, true, true, true, true, true, true, true, true, true]) (f2 := 0) (by kernel_rfl) (by kernel_rfl) ?_
      refine wpAnyH_done (by kernel_rfl) ?_ _
      go_upto_region 14 with fail
      refine wp_region_held_drew (S := (fun U : World => U.rangeAt cb (cq + i * 13) [.int .i64 xop, .int .i64 xb, .int .i64 xsz, .int .i64 xo, .int .u64 (xh : Int), .int .u64 (xl : Int), .bool xgv, .int .i64 xrt, .int .i64 xoff, .int .i64 xnn, .slice xda xdn xdc, .int .i64 xix, .slice xga xgn xgc] ∧ U.rangeAt rb (rq + i * 6) [.int .i64 cd, .int .i64 o, .int .u64 (ch : Int), .int .u64 (cl : Int), .slice da dn dc, .int .i64 nu])) (by kernel_rfl) (HS.out _ HBx9.out.drew) (fun hHeld => ?_)
      refine wpAnyH_norm (l2 := #[false, false, false, false, false, false, false, false, false, false, false, false]) (f2 := 12) (by kernel_rfl) (by kernel_rfl) ?_
      refine wpAnyH_take (i := 0) (oi := _) (v := ?_) rfl (by kernel_rfl) (by kernel_rfl) (by kernel_rfl) (fun _ _ _ h => h) (Or.inl ⟨by rfl, ?_⟩) (by assumption) ?_
      rotate_left
      · (intro w hSw; (try dsimp only at hSw); go_simp; try with_reducible rfl)
      simp only [List.getElem_toArray, List.getElem_cons_succ, List.getElem_cons_zero, Act.put, List.setIfInBounds_toArray, List.set_cons_zero, List.set_cons_succ]
      refine wpAnyH_norm (l2 := #[true, false, false, false, false, false, false, false, false, false, false, false]) (f2 := 11) (by kernel_rfl) (by kernel_rfl) ?_
      refine wpAnyH_take (i := 1) (oi := _) (v := ?_) rfl (by kernel_rfl) (by kernel_rfl) (by kernel_rfl) (fun _ _ _ h => h) (Or.inl ⟨by rfl, ?_⟩) (by assumption) ?_
      rotate_left
      · (intro w hSw; (try dsimp only at hSw); go_simp; try with_reducible rfl)
      simp only [List.getElem_toArray, List.getElem_cons_succ, List.getElem_cons_zero, Act.put, List.setIfInBounds_toArray, List.set_cons_zero, List.set_cons_succ]
      refine wpAnyH_norm (l2 := #[true, true, false, false, false, false, false, false, false, false, false, false]) (f2 := 10) (by kernel_rfl) (by kernel_rfl) ?_
      refine wpAnyH_take (i := 2) (oi := _) (v := ?_) rfl (by kernel_rfl) (by kernel_rfl) (by kernel_rfl) (fun _ _ _ h => h) (Or.inl ⟨by rfl, ?_⟩) (by assumption) ?_
      rotate_left
      · (intro w hSw; (try dsimp only at hSw); go_simp; try with_reducible rfl)
      simp only [List.getElem_toArray, List.getElem_cons_succ, List.getElem_cons_zero, Act.put, List.setIfInBounds_toArray, List.set_cons_zero, List.set_cons_succ]
      refine wpAnyH_norm (l2 := #[true, true, true, false, false, false, false, false, false, false, false, false]) (f2 := 9) (by kernel_rfl) (by kernel_rfl) ?_
      refine wpAnyH_take (i := 3) (oi := _) (v := ?_) rfl (by kernel_rfl) (by kernel_rfl) (by kernel_rfl) (fun _ _ _ h => h) (Or.inl ⟨by rfl, ?_⟩) (by assumption) ?_
      rotate_left
      · (intro w hSw; (try dsimp only at hSw); go_simp; try with_reducible rfl)
      simp only [List.getElem_toArray, List.getElem_cons_succ, List.getElem_cons_zero, Act.put, List.setIfInBounds_toArray, List.set_cons_zero, List.set_cons_succ]
      refine wpAnyH_norm (l2 := #[true, true, true, true, false, false, false, false, false, false, false, false]) (f2 := 8) (by kernel_rfl) (by kernel_rfl) ?_
      refine wpAnyH_take (i := 4) (oi := _) (v := ?_) rfl (by kernel_rfl) (by kernel_rfl) (by kernel_rfl) (fun _ _ _ h => h) (Or.inl ⟨by rfl, ?_⟩) (by assumption) ?_
      rotate_left
      · (intro w hSw; (try dsimp only at hSw); go_simp; try with_reducible rfl)
      simp only [List.getElem_toArray, List.getElem_cons_succ, List.getElem_cons_zero, Act.put, List.setIfInBounds_toArray, List.set_cons_zero, List.set_cons_succ]
      refine wpAnyH_norm (l2 := #[true, true, true, true, true, false, false, false, false, false, false, false]) (f2 := 7) (by kernel_rfl) (by kernel_rfl) ?_
      refine wpAnyH_take (i := 5) (oi := _) (v := ?_) rfl (by kernel_rfl) (by kernel_rfl) (by kernel_rfl) (fun _ _ _ h => h) (Or.inl ⟨by rfl, ?_⟩) (by assumption) ?_
      rotate_left
      · (intro w hSw; have z1 := hSw.1 1 _ rfl; go_simp; try with_reducible rfl)
      simp only [List.getElem_toArray, List.getElem_cons_succ, List.getElem_cons_zero, Act.put, List.setIfInBounds_toArray, List.set_cons_zero, List.set_cons_succ]
      refine wpAnyH_norm (l2 := #[true, true, true, true, true, true, false, false, false, false, false, false]) (f2 := 6) (by kernel_rfl) (by kernel_rfl) ?_
      refine wpAnyH_take (i := 6) (oi := _) (v := ?_) rfl (by kernel_rfl) (by kernel_rfl) (by kernel_rfl) (fun _ _ _ h => h) (Or.inl ⟨by rfl, ?_⟩) (by assumption) ?_
      rotate_left
      · (intro w hSw; (try dsimp only at hSw); go_simp; try with_reducible rfl)
      simp only [List.getElem_toArray, List.getElem_cons_succ, List.getElem_cons_zero, Act.put, List.setIfInBounds_toArray, List.set_cons_zero, List.set_cons_succ]
      refine wpAnyH_norm (l2 := #[true, true, true, true, true, true, true, false, false, false, false, false]) (f2 := 5) (by kernel_rfl) (by kernel_rfl) ?_
      refine wpAnyH_take (i := 7) (oi := _) (v := ?_) rfl (by kernel_rfl) (by kernel_rfl) (by kernel_rfl) (fun _ _ _ h => h) (Or.inl ⟨by rfl, ?_⟩) (by assumption) ?_
      rotate_left
      · (intro w hSw; (try dsimp only at hSw); go_simp; try with_reducible rfl)
      simp only [List.getElem_toArray, List.getElem_cons_succ, List.getElem_cons_zero, Act.put, List.setIfInBounds_toArray, List.set_cons_zero, List.set_cons_succ]
      refine wpAnyH_norm (l2 := #[true, true, true, true, true, true, true, true, false, false, false, false]) (f2 := 4) (by kernel_rfl) (by kernel_rfl) ?_
      refine wpAnyH_take (i := 8) (oi := _) (v := ?_) rfl (by kernel_rfl) (by kernel_rfl) (by kernel_rfl) (fun _ _ _ h => h) (Or.inl ⟨by rfl, ?_⟩) (by assumption) ?_
      rotate_left
      · (intro w hSw; (try dsimp only at hSw); go_simp; try with_reducible rfl)
      simp only [List.getElem_toArray, List.getElem_cons_succ, List.getElem_cons_zero, Act.put, List.setIfInBounds_toArray, List.set_cons_zero, List.set_cons_succ]
      refine wpAnyH_norm (l2 := #[true, true, true, true, true, true, true, true, true, false, false, false]) (f2 := 3) (by kernel_rfl) (by kernel_rfl) ?_
      refine wpAnyH_take (i := 9) (oi := _) (v := ?_) rfl (by kernel_rfl) (by kernel_rfl) (by kernel_rfl) (fun _ _ _ h => h) (Or.inl ⟨by rfl, ?_⟩) (by assumption) ?_
      rotate_left
      · (intro w hSw; (try dsimp only at hSw); go_simp; try with_reducible rfl)
      simp only [List.getElem_toArray, List.getElem_cons_succ, List.getElem_cons_zero, Act.put, List.setIfInBounds_toArray, List.set_cons_zero, List.set_cons_succ]
      refine wpAnyH_norm (l2 := #[true, true, true, true, true, true, true, true, true, true, false, false]) (f2 := 2) (by kernel_rfl) (by kernel_rfl) ?_
      refine wpAnyH_take (i := 10) (oi := _) (v := ?_) rfl (by kernel_rfl) (by kernel_rfl) (by kernel_rfl) (fun _ _ _ h => h) (Or.inl ⟨by rfl, ?_⟩) (by assumption) ?_
      rotate_left
      · (intro w hSw; have z1 := hSw.2 1 _ rfl; have z2 := hSw.2 2 _ rfl; have z3 := hSw.2 3 _ rfl; go_simp; try with_reducible rfl)
      simp only [List.getElem_toArray, List.getElem_cons_succ, List.getElem_cons_zero, Act.put, List.setIfInBounds_toArray, List.set_cons_zero, List.set_cons_succ]
      refine wpAnyH_norm (l2 := #[true, true, true, true, true, true, true, true, true, true, true, false]) (f2 := 1) (by kernel_rfl) (by kernel_rfl) ?_
      refine wpAnyH_ready (rs := [11]) (by kernel_rfl) (by simp) ?_
      refine AllReadyH.cons rfl (fun K hK => ?_) AllReadyH.nil
      go_simp
      go_wp2_with (first | (go_at_call 10; refine (HWa.out _ xb ⟨o, ch, cl⟩ HXo.out.b HYc.out HBc9.out.drew).mono ?_; rintro e w10 ⟨⟨v_, b_, rfl⟩, hbz⟩; have HBc10 : Hid (Below w5.heap.size w5 w10) := below_call (HBc9.out.drew) hbz; clear hbz))
      have HBx10 : Hid (Below w.heap.size w w10) := below_call HBw5.out HBc10.out
      refine hK.out _ _ (HS.out _ HBx10.out) (fun hHeld => ?_)
      clear hK K
      simp only [List.getElem_toArray, List.getElem_cons_succ, List.getElem_cons_zero, Act.put, List.setIfInBounds_toArray, List.set_cons_zero, List.set_cons_succ]
      refine wpAnyH_norm (l2 := #[true, true, true, true, true, true, true, true, true, true, true, true]) (f2 := 0) (by kernel_rfl) (by kernel_rfl) ?_
      refine wpAnyH_done (by kernel_rfl) ?_ _
      have HLD10 := hid (ldCl (HS.out _ HBx10.out).1 rfl)
      have x3 := (HS.out _ HBx10.out).1 3 _ rfl
      have x4 := (HS.out _ HBx10.out).1 4 _ rfl
      have x5 := (HS.out _ HBx10.out).1 5 _ rfl
      go_upto_region 16 with (first | ((with_reducible refine ld_arm HLD10.out ?_ ?_); (· rfl)) | (go_at_call 10; refine (HWa.out _ proc ⟨xo, xh, xl⟩ HP.out HXo.out.c HBc10.out).mono ?_; rintro e w11 ⟨⟨v_, b_, rfl⟩, hbz⟩; have HBc11 : Hid (Below w5.heap.size w5 w11) := below_call HBc10.out hbz; clear hbz))
      clear HLD10 x3 x4 x5
      have HBx11 : Hid (Below w.heap.size w w11) := below_call HBw5.out HBc11.out
      go_wp2_with (first | (go_at_call 8; refine (HKn.out _ HBc11.out).mono ?_; rintro e w12 ⟨⟨v_, rfl⟩, hbz⟩; have HBz : Hid (Below w5.heap.size w5 w12) := below_call HBc11.out hbz; clear hbz))
      exact ⟨⟨i + 1, m2, B2, rfl, rfl, by have := HNl.out; omega, by have := HKl.out; omega, HB2.out.later HBz.out, HG2.out, HN2.out, HS2.out, HO2.out, below_call HBw5.out HBz.out⟩, by simp [ivN]; omega⟩
    · have HSp : Hid (Calls Try.prog 17 #[.pointer (some ⟨gb, 0, none⟩)] wr fun e w' => e = .returned (.int .i64 (i : Int)) ∧ wr = w') := by
        have := steps_any m1 wr HB1.out.bw
        rw [HG1.out, HB1.out.n, HN1.out] at this
        exact this.mono (fun e w' h => ⟨h.1, h.2.symm⟩)
      have hq : ((i : Int) == (i : Int)) = true := by simp
      by_cases hi1 : i < n
      · have hi2 : ¬ i < k := fun h => hi ⟨hi1, h⟩
        have hd1 : decide ((i : Int) < (n : Int)) = true := by simp; omega
        have hd2 : decide ((i : Int) < (k : Int)) = false := by simp; omega
        have hj1 : (i : Int) < (n : Int) := by omega
        have hj2 : ¬ (i : Int) < (k : Int) := by omega
        go_wp2_with (first | (go_at_call 17; refine HSp.out.mono ?_; rintro e w9 ⟨rfl, rfl⟩))
        go_ret
        exact ⟨rfl, HBe.out⟩
      · have hd1 : decide ((i : Int) < (n : Int)) = false := by simp; omega
        have hj1 : ¬ (i : Int) < (n : Int) := by omega
        go_wp2_with (first | (go_at_call 17; refine HSp.out.mono ?_; rintro e w9 ⟨rfl, rfl⟩))
        go_ret
        exact ⟨rfl, HBe.out⟩
end Go.Proofs.Yticgammbjcdobaa
