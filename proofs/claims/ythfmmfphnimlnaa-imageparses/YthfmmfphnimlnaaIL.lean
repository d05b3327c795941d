import Derived.Test.YthfmmfphnimlnaaID
import Derived.Test.YthfmmfphnimlnaaIE
import Derived.Test.YthfmmfphnimlnaaIG
import Derived.Test.YthfmmfphnimlnaaIH
import Derived.Test.YthfmmfphnimlnaaIK
import Derived.Test.YthfmmfphnimlnaaRB
import Derived.Test.YthfmmfphnimlnaaRC
import Derived.Test.YthfmmfphnimlnaaRD
import Derived.Test.YthfmmfphnimlnaaRE
import Derived.Test.YthfmmfphnimlnaaRF
import Derived.ScopeJumps
import Derived.WalkMore
namespace Go.Proofs.Ythfmmfphnimlnaa
open Go.RowKit
set_option linter.unusedVariables false
set_option linter.unusedSimpArgs false
def hB (c : Cf) (s : St) (d : Int) : Nat → Bool
  | 0 => true
  | 1 => cfgB c
  | 2 => objB c s.O
  | 3 => nxtB s
  | 4 => tokB c s
  | 5 => kinB s.T
  | 6 => wrdB c.w s.T
  | 7 => prcB c s
  | _ => wi s.ta 0 d
theorem chk_eq (c : Cf) (s : St) (d : Int) : chk c s d = if hB c s d 1 = false then 1 else if hB c s d 2 = false then 2 else if hB c s d 3 = false then 3 else if hB c s d 4 = false then 4 else if hB c s d 5 = false then 5 else if hB c s d 6 = false then 6 else if hB c s d 7 = false then 7 else if hB c s d 8 = false then 8 else 0 := rfl
theorem chk_at {c : Cf} {s : St} {d : Int} {r : Nat} (h1 : 1 ≤ r) (h8 : r ≤ 8) (hp : ∀ k, k < r → hB c s d k = true) (hf : hB c s d r = false) : chk c s d = r := by
  rw [chk_eq]
  have g : ∀ k, k < r → hB c s d k ≠ false := fun k hk e => by rw [hp k hk] at e; cases e
  have e : r = 1 ∨ r = 2 ∨ r = 3 ∨ r = 4 ∨ r = 5 ∨ r = 6 ∨ r = 7 ∨ r = 8 := by omega
  rcases e with rfl | rfl | rfl | rfl | rfl | rfl | rfl | rfl
  · exact if_pos hf
  · rw [if_neg (g 1 (by omega))]; exact if_pos hf
  · rw [if_neg (g 1 (by omega)), if_neg (g 2 (by omega))]; exact if_pos hf
  · rw [if_neg (g 1 (by omega)), if_neg (g 2 (by omega)), if_neg (g 3 (by omega))]; exact if_pos hf
  · rw [if_neg (g 1 (by omega)), if_neg (g 2 (by omega)), if_neg (g 3 (by omega)), if_neg (g 4 (by omega))]; exact if_pos hf
  · rw [if_neg (g 1 (by omega)), if_neg (g 2 (by omega)), if_neg (g 3 (by omega)), if_neg (g 4 (by omega)), if_neg (g 5 (by omega))]; exact if_pos hf
  · rw [if_neg (g 1 (by omega)), if_neg (g 2 (by omega)), if_neg (g 3 (by omega)), if_neg (g 4 (by omega)), if_neg (g 5 (by omega)), if_neg (g 6 (by omega))]; exact if_pos hf
  · rw [if_neg (g 1 (by omega)), if_neg (g 2 (by omega)), if_neg (g 3 (by omega)), if_neg (g 4 (by omega)), if_neg (g 5 (by omega)), if_neg (g 6 (by omega)), if_neg (g 7 (by omega))]; exact if_pos hf
theorem chk_ok {c : Cf} {s : St} {d : Int} (hp : ∀ k, k < 9 → hB c s d k = true) : chk c s d = 0 := by
  rw [chk_eq]
  have g : ∀ k, k < 9 → hB c s d k ≠ false := fun k hk e => by rw [hp k hk] at e; cases e
  rw [if_neg (g 1 (by omega)), if_neg (g 2 (by omega)), if_neg (g 3 (by omega)), if_neg (g 4 (by omega)), if_neg (g 5 (by omega)), if_neg (g 6 (by omega)), if_neg (g 7 (by omega)), if_neg (g 8 (by omega))]
theorem chk_zero {c : Cf} {s : St} {d : Int} (h : chk c s d = 0) : ∀ k, k < 9 → hB c s d k = true := by
  intro k
  induction k using Nat.strongRecOn with
  | _ k ih =>
    intro hk
    by_cases h0 : k = 0
    · subst h0; rfl
    · cases e : hB c s d k with
      | true => rfl
      | false =>
        have := chk_at (c := c) (s := s) (d := d) (r := k) (by omega) (by omega) (fun j hj => ih j hj (by omega)) e
        omega
theorem far_of {c : Cf} {s : St} (ho : objB c s.O = true) (ht : tokB c s = true) (hw : ∀ x ∈ s.T, x.c.ok) : ∀ t ∈ s.T, t.c.far := by
  intro t h
  obtain ⟨r, hr, _, _⟩ := objB_some ho
  unfold tokB at ht
  rw [Bool.and_eq_true] at ht
  obtain ⟨o, ho, e⟩ := tkS_mem ht.2 t h
  have h1 := (obS_ids _ _ _ _ hr).1 o ho
  have hMI : MI = 4611686018427387904 := rfl
  exact ⟨hw t h, by omega, by omega⟩
theorem far_cw {c : Cf} (h : cfgB c = true) : c.w ≤ 9223372036854775807 := by have := cfg_o h; omega
set_option maxRecDepth 100000 in
set_option maxHeartbeats 8000000 in
theorem holds_any (c : Cf) (s : St) (a b d : Sl) (Q : List (Ob × Sl)) (R : List (Pc × Sl)) (w : World) (h : Sm w s a b d Q R) (dr : Int) (r : Nat) (h1 : 1 ≤ r) (h8 : r ≤ 8) (hp : ∀ k, k < r → hB c s dr k = true) :
    Calls Try.prog 24 #[.int .i64 (r : Int), c.v, stV a b d s.nx s.px s.ta, .int .i64 dr] w fun e w' => e = .returned (.bool (hB c s dr r)) ∧ Below w.heap.size w w' := by
  obtain ⟨W, hW⟩ : ∃ W, W = (w.alloc (Obj.cells #[.int .i64 c.w, .int .i64 c.o, .int .i64 c.p, .int .i64 c.e, .int .i64 c.q, .int .i64 c.r, .int .i64 c.l, .int .i64 c.s, .int .i64 c.y, .int .i64 c.k] 23)).alloc (Obj.cells #[.slice a.a a.n a.c, .slice b.a b.n b.c, .slice d.a d.n d.c, .int .i64 s.nx, .int .i64 s.px, .int .i64 s.ta] 28) := ⟨_, rfl⟩
  have hB : Below w.heap.size w W := by rw [hW]; exact below2 _ _ _
  have hsz : W.heap.size = w.heap.size + 1 + 1 := by rw [hW]; simp
  have HXr : Hid (W.rangeAt w.heap.size 0 c.L) := by rw [hW]; exact rangeAt_later (below1 _ _) (rangeAt_new w c.L _)
  have HYr : Hid (W.rangeAt (w.heap.size + 1) 0 [.slice a.a a.n a.c, .slice b.a b.n b.c, .slice d.a d.n d.c, .int .i64 s.nx, .int .i64 s.px, .int .i64 s.ta]) := by
    have := rangeAt_new (w.alloc (Obj.cells #[.int .i64 c.w, .int .i64 c.o, .int .i64 c.p, .int .i64 c.e, .int .i64 c.q, .int .i64 c.r, .int .i64 c.l, .int .i64 c.s, .int .i64 c.y, .int .i64 c.k] 23)) [.slice a.a a.n a.c, .slice b.a b.n b.c, .slice d.a d.n d.c, .int .i64 s.nx, .int .i64 s.px, .int .i64 s.ta] 28
    rw [World.size_alloc] at this
    rw [hW]; exact this
  have HM := hid (h.later hB)
  have HB := hid hB
  have HW := hid hW
  have hlf : (Instr.loadAt 23 (.pointer (some ⟨w.heap.size, 0, none⟩))).run Try.prog W = .ok c.v W := ldF HXr.out rfl
  have hls : (Instr.loadAt 28 (.pointer (some ⟨w.heap.size + 1, 0, none⟩))).run Try.prog W = .ok (stV a b d s.nx s.px s.ta) W := ldS HYr.out rfl
  have x0 := HXr.out 0 _ rfl
  have y0 := HYr.out 0 _ rfl
  have y1 := HYr.out 1 _ rfl
  have y5 := HYr.out 5 _ rfl
  simp only [Nat.zero_add] at x0 y0 y1 y5
  have e : r = 1 ∨ r = 2 ∨ r = 3 ∨ r = 4 ∨ r = 5 ∨ r = 6 ∨ r = 7 ∨ r = 8 := by omega
  have HEo : Hid (Q.map Prod.fst = s.O) := HM.out.eo
  have HLF := hid hlf
  have HLS := hid hls
  clear h hB hW hlf hls hsz
  rcases e with rfl | rfl | rfl | rfl | rfl | rfl | rfl | rfl
  · have HC : Hid (Calls Try.prog 46 _ W fun e w' => e = .returned (.bool (hB c s dr 1)) ∧ Below W.heap.size W w') := (configHolds_any c _)
    clear hp HXr HYr
    generalize hB c s dr 1 = rb at HC ⊢
    go_enter Try.func24, Try.ntmps24
    go_upto_region 1 with fail
    rw [← HW.out]
    go_wp2_with (first | ((with_reducible refine ld_arm HLF.out ?_ ?_); (· rfl)) | ((with_reducible refine ld_arm HLS.out ?_ ?_); (· rfl)) | (go_at_call 46; refine HC.out.mono ?_; rintro e w2 ⟨rfl, hb2⟩; have HB2 := hid (below_call HB.out hb2); clear hb2))
    go_ret
    exact ⟨rfl, HB2.out⟩
  · have HC : Hid (Calls Try.prog 47 #[c.v, .slice a.a a.n a.c] W fun e w' => e = .returned (.bool (hB c s dr 2)) ∧ Below W.heap.size W w') := by have := objectsHold_any c a Q _ HM.out.o HM.out.ob HM.out.ma (hp 1 (by omega)); rw [HM.out.eo] at this; exact this
    clear hp HXr HYr
    generalize hB c s dr 2 = rb at HC ⊢
    go_enter Try.func24, Try.ntmps24
    go_upto_region 1 with fail
    rw [← HW.out]
    go_wp2_with (first | ((with_reducible refine ld_arm HLF.out ?_ ?_); (· rfl)) | ((with_reducible refine ld_arm HLS.out ?_ ?_); (· rfl)) | (go_at_call 47; refine HC.out.mono ?_; rintro e w2 ⟨rfl, hb2⟩; have HB2 := hid (below_call HB.out hb2); clear hb2))
    go_ret
    exact ⟨rfl, HB2.out⟩
  · have HC : Hid (Calls Try.prog 48 _ W fun e w' => e = .returned (.bool (hB c s dr 3)) ∧ Below W.heap.size W w') := (nextIdHolds_any s a b d Q R _ HM.out c (hp 2 (by omega)))
    clear hp HXr HYr
    generalize hB c s dr 3 = rb at HC ⊢
    go_enter Try.func24, Try.ntmps24
    go_upto_region 1 with fail
    rw [← HW.out]
    go_wp2_with (first | ((with_reducible refine ld_arm HLF.out ?_ ?_); (· rfl)) | ((with_reducible refine ld_arm HLS.out ?_ ?_); (· rfl)) | (go_at_call 48; refine HC.out.mono ?_; rintro e w2 ⟨rfl, hb2⟩; have HB2 := hid (below_call HB.out hb2); clear hb2))
    go_ret
    exact ⟨rfl, HB2.out⟩
  · have HC : Hid (Calls Try.prog 49 _ W fun e w' => e = .returned (.bool (hB c s dr 4)) ∧ Below W.heap.size W w') := (tokensHold_any c s a b d Q R _ HM.out)
    clear hp HXr HYr
    generalize hB c s dr 4 = rb at HC ⊢
    go_enter Try.func24, Try.ntmps24
    go_upto_region 1 with fail
    rw [← HW.out]
    go_wp2_with (first | ((with_reducible refine ld_arm HLF.out ?_ ?_); (· rfl)) | ((with_reducible refine ld_arm HLS.out ?_ ?_); (· rfl)) | (go_at_call 49; refine HC.out.mono ?_; rintro e w2 ⟨rfl, hb2⟩; have HB2 := hid (below_call HB.out hb2); clear hb2))
    go_ret
    exact ⟨rfl, HB2.out⟩
  · have HC : Hid (Calls Try.prog 50 _ W fun e w' => e = .returned (.bool (hB c s dr 5)) ∧ Below W.heap.size W w') := (kinHolds_any b s.T _ HM.out.t HM.out.mb)
    clear hp HXr HYr
    generalize hB c s dr 5 = rb at HC ⊢
    go_enter Try.func24, Try.ntmps24
    go_upto_region 1 with fail
    rw [← HW.out]
    go_wp2_with (first | ((with_reducible refine ld_arm HLF.out ?_ ?_); (· rfl)) | ((with_reducible refine ld_arm HLS.out ?_ ?_); (· rfl)) | (go_at_call 50; refine HC.out.mono ?_; rintro e w2 ⟨rfl, hb2⟩; have HB2 := hid (below_call HB.out hb2); clear hb2))
    go_ret
    exact ⟨rfl, HB2.out⟩
  · have HC : Hid (Calls Try.prog 51 _ W fun e w' => e = .returned (.bool (hB c s dr 6)) ∧ Below W.heap.size W w') := (wordsHold_any c.w b s.T _ HM.out.t HM.out.mb (far_of (hp 2 (by omega)) (hp 4 (by omega)) HM.out.tw))
    clear hp HXr HYr
    generalize hB c s dr 6 = rb at HC ⊢
    go_enter Try.func24, Try.ntmps24
    go_upto_region 1 with fail
    rw [← HW.out]
    go_wp2_with (first | ((with_reducible refine ld_arm HLF.out ?_ ?_); (· rfl)) | ((with_reducible refine ld_arm HLS.out ?_ ?_); (· rfl)) | (go_at_call 51; refine HC.out.mono ?_; rintro e w2 ⟨rfl, hb2⟩; have HB2 := hid (below_call HB.out hb2); clear hb2))
    go_ret
    exact ⟨rfl, HB2.out⟩
  · have HC : Hid (Calls Try.prog 52 _ W fun e w' => e = .returned (.bool (hB c s dr 7)) ∧ Below W.heap.size W w') := (processesHold_any c s a b d Q R _ HM.out)
    clear hp HXr HYr
    generalize hB c s dr 7 = rb at HC ⊢
    go_enter Try.func24, Try.ntmps24
    go_upto_region 1 with fail
    rw [← HW.out]
    go_wp2_with (first | ((with_reducible refine ld_arm HLF.out ?_ ?_); (· rfl)) | ((with_reducible refine ld_arm HLS.out ?_ ?_); (· rfl)) | (go_at_call 52; refine HC.out.mono ?_; rintro e w2 ⟨rfl, hb2⟩; have HB2 := hid (below_call HB.out hb2); clear hb2))
    go_ret
    exact ⟨rfl, HB2.out⟩
  · have HC : Hid (Calls Try.prog 53 _ W fun e w' => e = .returned (.bool (hB c s dr 8)) ∧ w' = W) := (within_any s.ta 0 dr _)
    clear hp HXr HYr
    generalize hB c s dr 8 = rb at HC ⊢
    go_enter Try.func24, Try.ntmps24
    go_upto_region 1 with fail
    rw [← HW.out]
    go_wp2_with (first | ((with_reducible refine ld_arm HLF.out ?_ ?_); (· rfl)) | ((with_reducible refine ld_arm HLS.out ?_ ?_); (· rfl)) | (go_at_call 53; refine HC.out.mono ?_; rintro e w2 ⟨rfl, hb2⟩; subst hb2))
    go_ret
    exact ⟨rfl, HB.out⟩
set_option maxRecDepth 100000 in
set_option maxHeartbeats 8000000 in
theorem check_any (c : Cf) (s : St) (a b d : Sl) (Q : List (Ob × Sl)) (R : List (Pc × Sl)) (w : World) (h : Sm w s a b d Q R) (dr : Int) :
    Calls Try.prog 9 #[c.v, stV a b d s.nx s.px s.ta, .int .i64 dr] w fun e w' => e = .returned (.int .i64 (chk c s dr : Int)) ∧ Below w.heap.size w w' := by
  obtain ⟨W, hW⟩ : ∃ W, W = (w.alloc (Obj.cells #[.int .i64 c.w, .int .i64 c.o, .int .i64 c.p, .int .i64 c.e, .int .i64 c.q, .int .i64 c.r, .int .i64 c.l, .int .i64 c.s, .int .i64 c.y, .int .i64 c.k] 23)).alloc (Obj.cells #[.slice a.a a.n a.c, .slice b.a b.n b.c, .slice d.a d.n d.c, .int .i64 s.nx, .int .i64 s.px, .int .i64 s.ta] 28) := ⟨_, rfl⟩
  have hB : Below w.heap.size w W := by rw [hW]; exact below2 _ _ _
  have hsz : W.heap.size = w.heap.size + 1 + 1 := by rw [hW]; simp
  have HXr : Hid (W.rangeAt w.heap.size 0 c.L) := by rw [hW]; exact rangeAt_later (below1 _ _) (rangeAt_new w c.L _)
  have HYr : Hid (W.rangeAt (w.heap.size + 1) 0 [.slice a.a a.n a.c, .slice b.a b.n b.c, .slice d.a d.n d.c, .int .i64 s.nx, .int .i64 s.px, .int .i64 s.ta]) := by
    have := rangeAt_new (w.alloc (Obj.cells #[.int .i64 c.w, .int .i64 c.o, .int .i64 c.p, .int .i64 c.e, .int .i64 c.q, .int .i64 c.r, .int .i64 c.l, .int .i64 c.s, .int .i64 c.y, .int .i64 c.k] 23)) [.slice a.a a.n a.c, .slice b.a b.n b.c, .slice d.a d.n d.c, .int .i64 s.nx, .int .i64 s.px, .int .i64 s.ta] 28
    rw [World.size_alloc] at this
    rw [hW]; exact this
  have HM := hid (h.later hB)
  have HB := hid hB
  have HW := hid hW
  clear h hB hW hsz
  go_enter Try.func9, Try.ntmps9
  go_upto_region 1 with fail
  rw [← HW.out]
  go_wp2
  refine wp_scope_jumps 0 (fun a' w' => ∃ (r : Nat) (u8 u9 u10 u11 u12 u13 u14 u15 u16 u17 u18 : Value), a' = { tmps := #[c.v, stV a b d s.nx s.px s.ta, .int .i64 dr, .pointer (some ⟨w.heap.size, 0, none⟩), .pointer (some ⟨w.heap.size + 1, 0, none⟩), undef, .int .i64 0, .int .i64 (r : Int), u8, u9, u10, u11, u12, u13, u14, u15, u16, u17, u18], defers := [] } ∧ 1 ≤ r ∧ r ≤ 8 ∧ (∀ k, k < r → hB c s dr k = true) ∧ Below W.heap.size W w') (fun a' _ => 9 - ivN (a'.tmps.getD 7 undef)) rfl ?_ ?_
  · have hp0 : ∀ k, k < 1 → hB c s dr k = true := fun k hk => by
      obtain rfl : k = 0 := by omega
      rfl
    have HLF : Hid ((Instr.loadAt 23 (.pointer (some ⟨w.heap.size, 0, none⟩))).run Try.prog W = .ok c.v W) := (ldF (rangeAt_later (Below.refl _ _) HXr.out) rfl)
    have HLS : Hid ((Instr.loadAt 28 (.pointer (some ⟨w.heap.size + 1, 0, none⟩))).run Try.prog W = .ok (stV a b d s.nx s.px s.ta) W) := (ldS (rangeAt_later (Below.refl _ _) HYr.out) rfl)
    have HC := hid (holds_any c s a b d Q R W (HM.out.later (Below.refl _ _)) dr 1 (by omega) (by omega) hp0)
    cases hb : hB c s dr 1 with
    | false =>
      rw [hb] at HC
      have HF := hid (chk_at (c := c) (s := s) (d := dr) (r := 1) (by omega) (by omega) hp0 hb)
      go_wp2
      go_step3
      go_wp2_with (first | ((with_reducible refine ld_arm HLF.out ?_ ?_); (· rfl)) | ((with_reducible refine ld_arm HLS.out ?_ ?_); (· rfl)) | (go_at_call 24; refine HC.out.mono ?_; rintro e w2 ⟨rfl, hb2⟩; have HB2 := hid (below_call (Below.refl _ _) hb2); clear hb2))
      try simp only [Exit.jump]
      go_ret
      exact ⟨by rw [HF.out]; rfl, below_call HB.out HB2.out⟩
    | true =>
      rw [hb] at HC
      have hb' : ∀ k, k < 1 + 1 → hB c s dr k = true := fun k hk => by
        by_cases e : k = 1
        · rw [e]; exact hb
        · exact hp0 k (by omega)
      have HBb := hid hb'
      clear hb'
      go_wp2
      go_step3
      go_wp2_with (first | ((with_reducible refine ld_arm HLF.out ?_ ?_); (· rfl)) | ((with_reducible refine ld_arm HLS.out ?_ ?_); (· rfl)) | (go_at_call 24; refine HC.out.mono ?_; rintro e w2 ⟨rfl, hb2⟩; have HB2 := hid (below_call (Below.refl _ _) hb2); clear hb2))
      go_step3
      refine ⟨rfl, 2, _, _, _, _, _, _, _, _, _, _, _, rfl, by omega, by omega, HBb.out, HB2.out⟩
  · rintro a' wp_ ⟨r, u8, u9, u10, u11, u12, u13, u14, u15, u16, u17, u18, rfl, h1, h8, hpp, hBp⟩
    have HPp := hid hpp
    have HBp := hid hBp
    clear hpp hBp
    have HLF : Hid ((Instr.loadAt 23 (.pointer (some ⟨w.heap.size, 0, none⟩))).run Try.prog wp_ = .ok c.v wp_) := (ldF (rangeAt_later HBp.out HXr.out) rfl)
    have HLS : Hid ((Instr.loadAt 28 (.pointer (some ⟨w.heap.size + 1, 0, none⟩))).run Try.prog wp_ = .ok (stV a b d s.nx s.px s.ta) wp_) := (ldS (rangeAt_later HBp.out HYr.out) rfl)
    have HC := hid (holds_any c s a b d Q R wp_ (HM.out.later HBp.out) dr r h1 h8 HPp.out)
    cases hb : hB c s dr r with
    | false =>
      rw [hb] at HC
      have HF := hid (chk_at (c := c) (s := s) (d := dr) (r := r) h1 h8 HPp.out hb)
      skip
      go_wp2_with (first | ((with_reducible refine ld_arm HLF.out ?_ ?_); (· rfl)) | ((with_reducible refine ld_arm HLS.out ?_ ?_); (· rfl)) | (go_at_call 24; refine HC.out.mono ?_; rintro e w2 ⟨rfl, hb2⟩; have HB2 := hid (below_call HBp.out hb2); clear hb2))
      try simp only [Exit.jump]
      go_ret
      exact ⟨by rw [HF.out]; rfl, below_call HB.out HB2.out⟩
    | true =>
      rw [hb] at HC
      have hb' : ∀ k, k < r + 1 → hB c s dr k = true := fun k hk => by
        by_cases e : k = r
        · rw [e]; exact hb
        · exact HPp.out k (by omega)
      have HBb := hid hb'
      clear hb'
      by_cases h8' : r < 8
      · have hd : decide ((r : Int) < 8) = true := by simp; omega
        go_wp2_with (first | ((with_reducible refine ld_arm HLF.out ?_ ?_); (· rfl)) | ((with_reducible refine ld_arm HLS.out ?_ ?_); (· rfl)) | (go_at_call 24; refine HC.out.mono ?_; rintro e w2 ⟨rfl, hb2⟩; have HB2 := hid (below_call HBp.out hb2); clear hb2))
        go_step3
        refine ⟨rfl, ⟨r + 1, _, _, _, _, _, _, _, _, _, _, _, rfl, by omega, by omega, HBb.out, HB2.out⟩, by simp [ivN]; omega⟩
      · obtain rfl : r = 8 := by omega
        have HF := hid (chk_ok (c := c) (s := s) (d := dr) HBb.out)
        go_wp2_with (first | ((with_reducible refine ld_arm HLF.out ?_ ?_); (· rfl)) | ((with_reducible refine ld_arm HLS.out ?_ ?_); (· rfl)) | (go_at_call 24; refine HC.out.mono ?_; rintro e w2 ⟨rfl, hb2⟩; have HB2 := hid (below_call HBp.out hb2); clear hb2))
        try simp only [Exit.jump]
        go_ret
        exact ⟨by rw [HF.out]; rfl, below_call HB.out HB2.out⟩
end Go.Proofs.Ythfmmfphnimlnaa
