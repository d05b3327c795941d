import Derived.Test.YtciidjhadijhdaaRD
namespace Go.Proofs.Ytciidjhadijhdaa
open Go.RowKit Go.Shelf H
set_option linter.unusedVariables false

theorem RDone.same {w w' : World} {r b mo : Nat} {X : List Tk} {l : Fo} {wh : Int → Int} {ev : Nat} {c : Int} (h : Rf w r b mo X l wh ev) (ht : Tim l wh ev) (hb : Below w.heap.size w w') : RDone w r b mo ⟨0, c, X, l⟩ wh ev (.returned (.tuple #[.int .i64 0, .int .i64 c])) w' :=
  ⟨rfl, ⟨wh, ev, h.later hb, ht, by omega⟩, But.of hb⟩
theorem RDone.pre {w W w' : World} {r b mo : Nat} {R : Res} {wh : Int → Int} {ev : Nat} {e : Ending} (hb : Below w.heap.size w W) (h : RDone W r b mo R wh ev e w') : RDone w r b mo R wh ev e w' := ⟨h.1, h.2.1, (But.of hb).trans h.2.2⟩
theorem inN_pos {X : List Tk} {l : Fo} {o : Int} : 0 < inN X l o ↔ hasO X l o = true := by
  unfold inN
  rw [hasO_iff, List.length_pos_iff_exists_mem]
  constructor
  · rintro ⟨n, hn⟩
    rw [List.mem_filter, decide_eq_true_eq] at hn
    exact ⟨n, hn.1, hn.2⟩
  · rintro ⟨n, h1, h2⟩
    exact ⟨n, List.mem_filter.2 ⟨h1, decide_eq_true h2⟩⟩
theorem inN_le {m : Nat} {X : List Tk} {l : Fo} (h : Ok m l) (o : Int) : inN X l o ≤ m := by
  unfold inN
  have := List.length_filter_le (fun n => decide (ob X n = o)) (nums l)
  rw [nums_len] at this
  exact Nat.le_trans this h.len
set_option maxRecDepth 100000 in
set_option maxHeartbeats 2000000 in
theorem rroot_any {w : World} {r b mo : Nat} {X : List Tk} {l : Fo} {wh : Int → Int} {ev : Nat} (h : Rf w r b mo X l wh ev) (hv : Inv mo X l) (ht : Tim l wh ev) (he : ev < 9223372036854775807) (c : Cp) (rt : Int) (hw : c.2.1 < B64 ∧ c.2.2 < B64) :
    Calls Try.prog 21 #[.pointer (some ⟨r, 0, none⟩), cpV c, .int .i64 rt] w (RDone w r b mo (rootR mo X l c rt) wh ev) := by
  obtain ⟨o, hi, lo⟩ := c
  obtain ⟨w1, hw1⟩ : ∃ w1, w1 = w.alloc (Obj.cells #[.int .i64 o, .int .u64 (hi : Int), .int .u64 (lo : Int)] 57) := ⟨_, rfl⟩
  have hB1 : Below w.heap.size w w1 := by rw [hw1]; exact below1 _ _
  have z0 : w1.cell? ⟨w.heap.size, 0, none⟩ = some (.int .i64 o) := by rw [hw1]; simp [go_sem]
  have z1 : w1.cell? ⟨w.heap.size, 1, none⟩ = some (.int .u64 (hi : Int)) := by rw [hw1]; simp [go_sem]
  have z2 : w1.cell? ⟨w.heap.size, 2, none⟩ = some (.int .u64 (lo : Int)) := by rw [hw1]; simp [go_sem]
  have HH := hid h
  have HT := hid ht
  have HB1 := hid hB1
  have hin := hid (rin_any (h.later hB1) hv.ok o)
  have hle := inN_le (X := X) hv.ok o
  have hbig := h.big
  obtain ⟨R, hR⟩ : ∃ R, R = rootR mo X l (o, hi, lo) rt := ⟨_, rfl⟩
  rw [← hR]
  unfold rootR at hR
  by_cases hvl : validB rt = true
  · rw [if_neg (by rw [hvl]; decide)] at hR
    by_cases ho : hasO X l o = true
    · rw [if_pos ho] at hR
      subst hR
      have hp : (0 : Int) < (inN X l o : Int) := by have := inN_pos.2 ho; omega
      clear h hv ht hB1 ho
      generalize inN X l o = ni at *
      go_enter Try.func21, Try.ntmps21
      go_upto_region 1 with fail
      rw [← hw1]
      clear hw1
      go_wp2_with (first | (go_at_call 29; refine hin.out.mono ?_; rintro e w9 ⟨rfl, hw9⟩; obtain rfl := hw9.symm; clear hw9) | (go_at_call 42; refine (rvalid_any _ _).mono ?_; rintro e w9 ⟨rfl, hw9⟩; obtain rfl := hw9.symm; clear hw9; rw [hvl]))
      exact bodyPost_ret (v := .tuple #[.int .i64 0, .int .i64 19]) (by simp [results, Try.results21, go_sem]) rfl (RDone.same HH.out HT.out HB1.out)
    · rw [if_neg ho] at hR
      have hc : hasC X l (o, hi, lo) = false := by
        cases hc : hasC X l (o, hi, lo) with
        | false => rfl
        | true => exact absurd (hasO_of_hasC hc) ho
      have hn0 : inN X l o = 0 := by
        rcases Nat.eq_zero_or_pos (inN X l o) with h0 | h0
        · exact h0
        · exact absurd (inN_pos.1 h0) ho
      rw [hn0] at hin
      have hpu := hid (rput_any (h.later hB1) hv ht he o hi lo rt (-1) hc hw (.inl rfl))
      subst hR
      generalize addR mo X l (-1) (o, hi, lo) rt = R at *
      clear h hv ht hB1 ho hc hn0 hle
      go_enter Try.func21, Try.ntmps21
      go_upto_region 1 with fail
      rw [← hw1]
      clear hw1
      go_wp2_with (first | (go_at_call 43; refine hpu.out.mono ?_; rintro e w3 hd; have hd1 := hd.1; subst hd1; have HD := hid hd; clear hd) | (go_at_call 29; refine hin.out.mono ?_; rintro e w9 ⟨rfl, hw9⟩; obtain rfl := hw9.symm; clear hw9) | (go_at_call 42; refine (rvalid_any _ _).mono ?_; rintro e w9 ⟨rfl, hw9⟩; obtain rfl := hw9.symm; clear hw9; rw [hvl]))
      exact bodyPost_ret (v := .tuple #[.int .i64 R.num, .int .i64 R.code]) (by simp [results, Try.results21, go_sem]) rfl (HD.out.pre HB1.out)
  · have hvl' : validB rt = false := by simpa using hvl
    rw [if_pos hvl'] at hR
    subst hR
    clear h hv ht hB1
    go_enter Try.func21, Try.ntmps21
    go_upto_region 1 with fail
    rw [← hw1]
    clear hw1
    go_wp2_with (first | (go_at_call 42; refine (rvalid_any _ _).mono ?_; rintro e w9 ⟨rfl, hw9⟩; obtain rfl := hw9.symm; clear hw9; rw [hvl']))
    exact bodyPost_ret (v := .tuple #[.int .i64 0, .int .i64 4]) (by simp [results, Try.results21, go_sem]) rfl (RDone.same HH.out HT.out HB1.out)
set_option maxRecDepth 100000 in
set_option maxHeartbeats 4000000 in
theorem rchild_any {w : World} {r b mo : Nat} {X : List Tk} {l : Fo} {wh : Int → Int} {ev : Nat} (h : Rf w r b mo X l wh ev) (hv : Inv mo X l) (ht : Tim l wh ev) (he : ev < 9223372036854775807) (p : Int) (c : Cp) (rt : Int) (hw : c.2.1 < B64 ∧ c.2.2 < B64) :
    Calls Try.prog 23 #[.pointer (some ⟨r, 0, none⟩), .int .i64 p, cpV c, .int .i64 rt] w (RDone w r b mo (childR mo X l p c rt) wh ev) := by
  obtain ⟨o, hi, lo⟩ := c
  obtain ⟨w1, hw1⟩ : ∃ w1, w1 = w.alloc (Obj.cells #[.int .i64 o, .int .u64 (hi : Int), .int .u64 (lo : Int)] 57) := ⟨_, rfl⟩
  have hB1 : Below w.heap.size w w1 := by rw [hw1]; exact below1 _ _
  have HZ : Hid (∀ W, Below w1.heap.size w1 W → W.cell? ⟨w.heap.size, 0, none⟩ = some (.int .i64 o) ∧ W.cell? ⟨w.heap.size, 1, none⟩ = some (.int .u64 (hi : Int)) ∧ W.cell? ⟨w.heap.size, 2, none⟩ = some (.int .u64 (lo : Int))) := fun W hW => ⟨cell_later hW (by rw [hw1]; simp [go_sem]), cell_later hW (by rw [hw1]; simp [go_sem]), cell_later hW (by rw [hw1]; simp [go_sem])⟩
  have HH := hid h
  have HT := hid ht
  have HB1 := hid hB1
  have H1 := hid (h.later hB1)
  have HV := hid hv
  have his := hid (ris_any (h.later hB1) hv.ok.range p)
  have hbig := h.big
  obtain ⟨R, hR⟩ : ∃ R, R = childR mo X l p (o, hi, lo) rt := ⟨_, rfl⟩
  rw [← hR]
  unfold childR at hR
  clear h hv ht hB1
  by_cases hp : p ∈ nums l
  · rw [if_neg (fun hn => hn hp)] at hR
    rw [decide_eq_true hp] at his
    have hrn := HV.out.ok.range p hp
    obtain ⟨k, rfl⟩ : ∃ k : Nat, p = (k : Int) := ⟨p.toNat, by omega⟩
    have hk : k < mo := by omega
    have hval := HV.out.val (k : Int) hp
    have hP := fun W (hW : Below w1.heap.size w1 W) => ((H1.out.later hW).at_ k hk)
    rw [plc_in hp] at hP
    have HP : Hid (∀ W, Below w1.heap.size w1 W → W.cell? ⟨r, 0, none⟩ = some (.slice (some ⟨b, 0, none⟩) mo mo) ∧ W.cell? ⟨b, k * 7 + 1, none⟩ = some (.int .i64 (ob X (k : Int))) ∧ W.cell? ⟨b, k * 7 + 4, none⟩ = some (.int .i64 (rg X (k : Int)))) := fun W hW => ⟨(H1.out.later hW).c0, (hP W hW).c1, (hP W hW).c4⟩
    have HPU := hid (fun (hc : hasC X l (o, hi, lo) = false) W (hW : Below w1.heap.size w1 W) => rput_any (H1.out.later hW) HV.out HT.out he o hi lo rt (k : Int) hc hw (.inr hp))
    have HFI := hid (fun W (hW : Below w1.heap.size w1 W) => rfind_any (H1.out.later hW) HV.out o hi lo)
    generalize ob X (k : Int) = oo at *
    generalize rg X (k : Int) = rr at *
    obtain ⟨y0, y1, y4⟩ := HP.out w1 (Below.refl _ _)
    obtain ⟨z0, z1, z2⟩ := HZ.out w1 (Below.refl _ _)
    clear hP hp hrn
    by_cases ho : oo = o
    · subst ho
      rw [if_neg (fun hn => hn rfl)] at hR
      by_cases hpt : partB rt rr = true
      · rw [if_neg (by rw [hpt]; decide)] at hR
        have hpa := hid (fun W => rpart_any rt rr hval W)
        rw [hpt] at hpa
        by_cases hc : hasC X l (oo, hi, lo) = true
        · unfold addR at hR
          rw [if_pos hc] at hR
          subst hR
          rw [hc] at HFI
          generalize findN X l (oo, hi, lo) = fn at *
          go_enter Try.func23, Try.ntmps23
          go_upto_region 1 with fail
          rw [← hw1]
          clear hw1
          go_upto_region 3 with (first | (go_at_call 46; refine his.out.mono ?_; rintro e w9 ⟨rfl, hw9⟩; obtain rfl := hw9.symm; clear hw9))
          go_quiet (fail)
          have HBq := hid (below_drewN (Below.refl w1.heap.size w1) nq)
          generalize hwq : w1.drewN nq = w2 at HBq ⊢
          obtain ⟨v0, v1, v4⟩ := HP.out w2 HBq.out
          obtain ⟨u0, u1_, u2_⟩ := HZ.out w2 HBq.out
          clear hwq y0 y1 y4 z0 z1 z2
          go_wp2_with (first | (go_at_call 48; refine (HFI.out _ HBq.out).mono ?_; rintro e w3 ⟨rfl, hb3⟩; have HB3 := hid (below_call HBq.out hb3); clear hb3) | (go_at_call 47; refine (hpa.out _).mono ?_; rintro e w9 ⟨rfl, hw9⟩; obtain rfl := hw9.symm; clear hw9))
          exact bodyPost_ret (v := .tuple #[.int .i64 0, .int .i64 19]) (by simp [results, Try.results23, go_sem]) rfl (RDone.same HH.out HT.out (below_call HB1.out HB3.out))
        · have hc' : hasC X l (oo, hi, lo) = false := by simpa using hc
          have hpu := hid (HPU.out hc')
          rw [hc'] at HFI
          generalize findN X l (oo, hi, lo) = fn at *
          subst hR
          generalize addR mo X l (k : Int) (oo, hi, lo) rt = R at *
          go_enter Try.func23, Try.ntmps23
          go_upto_region 1 with fail
          rw [← hw1]
          clear hw1
          go_upto_region 3 with (first | (go_at_call 46; refine his.out.mono ?_; rintro e w9 ⟨rfl, hw9⟩; obtain rfl := hw9.symm; clear hw9))
          go_quiet (fail)
          have HBq := hid (below_drewN (Below.refl w1.heap.size w1) nq)
          generalize hwq : w1.drewN nq = w2 at HBq ⊢
          obtain ⟨v0, v1, v4⟩ := HP.out w2 HBq.out
          obtain ⟨u0, u1_, u2_⟩ := HZ.out w2 HBq.out
          clear hwq y0 y1 y4 z0 z1 z2
          go_upto_region 8 with (first | (go_at_call 48; refine (HFI.out _ HBq.out).mono ?_; rintro e w3 ⟨rfl, hb3⟩; have HB3 := hid (below_call HBq.out hb3); clear hb3) | (go_at_call 47; refine (hpa.out _).mono ?_; rintro e w9 ⟨rfl, hw9⟩; obtain rfl := hw9.symm; clear hw9))
          clear u0 u1_ u2_ v0 v1 v4
          obtain ⟨u0, u1_, u2_⟩ := HZ.out w3 HB3.out
          have HPU3 := hid (hpu.out _ HB3.out)
          go_wp2_with (first | (go_at_call 43; refine HPU3.out.mono ?_; rintro e w4 hd; have hd1 := hd.1; subst hd1; have HD := hid hd; clear hd))
          exact bodyPost_ret (v := .tuple #[.int .i64 R.num, .int .i64 R.code]) (by simp [results, Try.results23, go_sem]) rfl (HD.out.pre (below_call HB1.out HB3.out))
      · have hpt' : partB rt rr = false := by simpa using hpt
        rw [if_pos hpt'] at hR
        subst hR
        have hpa := hid (fun W => rpart_any rt rr hval W)
        rw [hpt'] at hpa
        go_enter Try.func23, Try.ntmps23
        go_upto_region 1 with fail
        rw [← hw1]
        clear hw1
        go_upto_region 3 with (first | (go_at_call 46; refine his.out.mono ?_; rintro e w9 ⟨rfl, hw9⟩; obtain rfl := hw9.symm; clear hw9))
        go_quiet (fail)
        have HBq := hid (below_drewN (Below.refl w1.heap.size w1) nq)
        generalize hwq : w1.drewN nq = w2 at HBq ⊢
        obtain ⟨v0, v1, v4⟩ := HP.out w2 HBq.out
        clear hwq y0 y1 y4 z0 z1 z2
        go_wp2_with (first | (go_at_call 47; refine (hpa.out _).mono ?_; rintro e w9 ⟨rfl, hw9⟩; obtain rfl := hw9.symm; clear hw9))
        exact bodyPost_ret (v := .tuple #[.int .i64 0, .int .i64 4]) (by simp [results, Try.results23, go_sem]) rfl (RDone.same HH.out HT.out (below_call HB1.out HBq.out))
    · rw [if_pos ho] at hR
      subst hR
      have hbn : (oo == o) = false := by simp [ho]
      have hbn2 : (oo != o) = true := by simp [ho]
      go_enter Try.func23, Try.ntmps23
      go_upto_region 1 with fail
      rw [← hw1]
      clear hw1
      go_upto_region 3 with (first | (go_at_call 46; refine his.out.mono ?_; rintro e w9 ⟨rfl, hw9⟩; obtain rfl := hw9.symm; clear hw9))
      go_quiet (fail)
      have HBq := hid (below_drewN (Below.refl w1.heap.size w1) nq)
      generalize hwq : w1.drewN nq = w2 at HBq ⊢
      clear hwq y0 y1 y4 z0 z1 z2
      go_wp2
      exact bodyPost_ret (v := .tuple #[.int .i64 0, .int .i64 3]) (by simp [results, Try.results23, go_sem]) rfl (RDone.same HH.out HT.out (below_call HB1.out HBq.out))
  · rw [if_pos hp] at hR
    subst hR
    rw [decide_eq_false hp] at his
    go_enter Try.func23, Try.ntmps23
    go_upto_region 1 with fail
    rw [← hw1]
    clear hw1
    go_wp2_with (first | (go_at_call 46; refine his.out.mono ?_; rintro e w9 ⟨rfl, hw9⟩; obtain rfl := hw9.symm; clear hw9))
    exact bodyPost_ret (v := .tuple #[.int .i64 0, .int .i64 20]) (by simp [results, Try.results23, go_sem]) rfl (RDone.same HH.out HT.out HB1.out)
end Go.Proofs.Ytciidjhadijhdaa
