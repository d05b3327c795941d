import Derived.Test.YtjncgpekmilpeaaG2
namespace Go.Proofs.Ytjncgpekmilpeaa
open Go.RowKit
set_option linter.unusedVariables false
set_option linter.unusedSimpArgs false

/-- The three readers behind their making. -/
def NewRel (w W wr : World) (gl k : Nat) (F : Nat → It) (E : List Nat) (r s t : Value) (w' : World) : Prop :=
  ∃ gr br gs bs gt bt : Nat, r = .pointer (some ⟨gr, 0, none⟩) ∧ s = .pointer (some ⟨gs, 0, none⟩) ∧ t = .pointer (some ⟨gt, 0, none⟩) ∧ Rd w' gr br E ∧ Rd w' gs bs (E.take (E.length - 1)) ∧ Rd w' gt bt (E ++ [7]) ∧
    Arr w' gl (k + 1) (mixF F (k + 1)) ∧ But (· = gl) W w' ∧ (W.heap.size ≤ gr ∧ W.heap.size ≤ gs ∧ W.heap.size ≤ gt) ∧ (gr ≠ gs ∧ gr ≠ gt ∧ gs ≠ gt ∧ br ≠ gs ∧ br ≠ gt ∧ bs ≠ gr ∧ bs ≠ gt ∧ bt ≠ gr ∧ bt ≠ gs) ∧ W.heap.size ≤ wr.heap.size
theorem encR_len2 (g : Nat → It) (w : World) (m B : Nat) (h : ∀ j, j < m → (g j).Good w) (hB : ∀ j, j < m → (g j).n ≤ B) : ∀ d i, i + d ≤ m → (encR g i d).length ≤ d * (B + 24) := by
  intro d
  induction d with
  | zero => intro i _; simp [encR]
  | succ d ih =>
    intro i hd
    rw [encR, List.length_append]
    have h1 := ih (i + 1) (by omega)
    have h2 := enc_len (g i) w (h i (by omega))
    have h3 := hB i (by omega)
    rw [Nat.succ_mul]
    omega
theorem last_enc {F : Nat → It} {k : Nat} (h : F k = lastIt) : ((F k).mk62).enc = leL 72623859790382856 8 := by
  rw [h]
  exact enc3 (by decide)
def tl7 : List Nat := (leL 72623859790382856 8).take 7
theorem take_last (F : Nat → It) (k : Nat) (E : List Nat) (hE : E = encR (fun j => (F j).mk62) 0 (k + 1)) (h : F k = lastIt) : E.take (E.length - 1) = encR (fun j => (F j).mk62) 0 k ++ tl7 := by
  have e : E = encR (fun j => (F j).mk62) 0 k ++ leL 72623859790382856 8 := by rw [hE, encR_snoc, Nat.zero_add, last_enc h]
  rw [e, List.length_append, leL_length]
  have : (encR (fun j => (F j).mk62) 0 k).length + 8 - 1 = (encR (fun j => (F j).mk62) 0 k).length + 7 := by omega
  rw [this, List.take_append, List.take_of_length_le (by omega), Nat.add_sub_cancel_left]
  rfl
/-- Behind i items. -/
def BackRel (w W : World) (gl k : Nat) (F : Nat → It) (gr br gs bs gt bt : Nat) (t : Value) (w' : World) : Prop :=
  ∃ i : Nat, i ≤ k + 1 ∧ t = .int .i64 (i : Int) ∧ Rd w' gr br (encR (fun j => (F j).mk62) i (k + 1 - i)) ∧ Rd w' gs bs (encR (fun j => (F j).mk62) (min i k) (k - min i k) ++ tl7) ∧ Rd w' gt bt (encR (fun j => (F j).mk62) i (k + 1 - i) ++ [7]) ∧
    Arr w' gl (k + 1) (mixF F (k + 1)) ∧ But (fun b => b = gl ∨ b = gr ∨ b = gs ∨ b = gt) W w'
def LayAll (w W : World) (gl m : Nat) (f : Nat → It) (bv t : Value) (w' : World) : Prop :=
  ∃ (i : Nat) (a : Option Addr) (n c : Nat), i ≤ m ∧ t = .int .i64 (i : Int) ∧ bv = .slice a n c ∧ Own w' W.heap.size a n c (encR (fun j => (f j).mk62) 0 i) ∧ Arr w' gl m (mixF f i) ∧ But (· = gl) W w'

set_option maxRecDepth 100000 in
set_option maxHeartbeats 4000000 in
theorem back_walk (x : Option Addr) (k cx : Nat) (f : Nat → It) (w : World) (h : Items w x k cx f) (hg : ∀ j, j < k → (f j).Good w) (hk : k ≤ 1048576) (hn : ∀ j, j < k → (f j).n ≤ 1048576) :
    Calls Try.prog 4 #[.slice x k cx] w fun e w' => e = .returned (.bool true) ∧ Below w.heap.size w w' := by
  have hb0 : Below w.heap.size w w := Below.refl _ _
  obtain ⟨F, hF⟩ : ∃ F, F = withLast f k := ⟨_, rfl⟩
  have HN : Hid (k ≤ 1048576) := hk
  have HFl : Hid (F k = lastIt) := by unfold Hid; rw [hF]; unfold withLast; rw [if_neg (by omega)]
  have HGd : Hid (∀ j, j < k + 1 → (F j).Good w ∧ (F j).n ≤ 1048576) := by
    intro j hj
    rw [hF]
    unfold withLast
    by_cases hjk : j < k
    · rw [if_pos hjk]; exact ⟨hg j hjk, hn j hjk⟩
    · rw [if_neg hjk]; exact ⟨⟨by decide, by decide, by decide, row_nil w⟩, by decide⟩
  have HI : Hid (Items w x k cx f) := h
  clear h hg hn hk
  go_enter Try.func4, Try.ntmps4
  go_upto_region 3 with (first | (go_at_call 7; refine (head_any _).mono ?_; rintro e w1 ⟨rfl, hb⟩; replace hb0 := below_call hb0 hb))
  have HI1 : Items w1 x k cx f := ⟨HI.out.cap_, HI.out.none_, fun y hy j u hu => cell_later hb (HI.out.cells y hy j u hu)⟩
  obtain ⟨v1, w2, hr1, hrest⟩ := items_run HI1 HN.out w1.heap.size rfl
  obtain ⟨gl, cl, w3, hr2, hArr, hcl, hgl0, hgl1, hb3⟩ := hrest w2.heap.size rfl
  rw [← hF] at hArr
  have HR1 : Hid _ := hr1
  have HR2 : Hid _ := hr2
  have hgw : w.heap.size ≤ gl := by have := hb0.size; omega
  replace hb0 := below_call hb0 hb3
  clear hr1 hr2 hrest HI1 HI hb hb3 hF hgl0
  go_upto_region 4 with (first | (at_builtin; have hq_ := mk1; clear hq_; refine wpList_append_known rfl _ _ 49 rfl _ _ rfl rfl _ w3 HR2.out ?_) | (at_builtin; refine wpList_append_known rfl _ _ 49 rfl _ _ rfl rfl _ w2 HR1.out ?_; obtain ⟨mk1, _⟩ : ∃ m : Nat, m = 0 := ⟨0, rfl⟩))
  clear HR1 HR2
  have HL0 : Hid (LayAll w w3 gl (k + 1) F (.slice none 0 0) (.int .i64 0) w3) := ⟨0, none, 0, 0, by omega, rfl, rfl, Own.nil _ _, hArr, But.refl _ _⟩
  have HB : Hid (Below w.heap.size w w3 ∧ gl < w3.heap.size ∧ w.heap.size ≤ gl ∧ k + 1 ≤ cl) := ⟨hb0, hgl1, hgw, hcl⟩
  clear hArr hb0 hgl1 hgw hcl
  rename World => W
  go_wp2
  go_loopw [3, 4] (LayAll w W gl (k + 1) F) (fun _ t _ => k + 1 - (intOf t).toNat)
  case atStart => exact HL0.out
  case round =>
    clear HL0
    obtain ⟨i, a, n, c, hi, rfl, rfl, hown, hArr, hbut⟩ := hrel
    by_cases hlt : i < k + 1
    · have hd : decide ((i : Int) < ((k + 1 : Nat) : Int)) = true := by simp; omega
      have hd' : decide ((i : Int) < (k : Int) + 1) = true := by simp; omega
      obtain ⟨hX, hfz⟩ := hArr i hlt
      rw [mixF_at] at hX
      have x2 := hX.c2
      have hd2 : (i : Int) < ((k + 1 : Nat) : Int) := by omega
      have hd3 : (i : Int) < (k : Int) + 1 := by omega
      have ei : IntKind.i64.wrap ((i : Int) + 1) = (i : Int) + 1 := by have := HN.out; rw [IntKind.wrap_i64]; omega
      have hArr2 := hArr.step hlt
      have hbut2 := hbut.setCell (p := ⟨gl, i * 6 + 2, none⟩) rfl (.int .i64 (bits .and .i64 (F i).o 4611686018427387903))
      clear hX hArr
      go_upto_region 9 with fail
      have hX2 := (hArr2 i hlt).1
      rw [mixF_done] at hX2
      have hgood : (F i).mk62.Good (wr.setCell ⟨gl, i * 6 + 2, none⟩ (.int .i64 (bits .and .i64 (F i).o 4611686018427387903))) := by
        obtain ⟨h1, h2, h3, h4⟩ := HB.out
        have g0 := ((HGd.out i hlt).1).later h1
        exact It.good62 ⟨g0.v, g0.hi, g0.lo, g0.row.but hbut2 (fun b hb hL e => by
          have := ((HGd.out i hlt).1).row.blk_lt hL b hb
          omega)⟩
      have hlaid := It.laid62 (F i)
      have hnn : (F i).mk62.n ≤ 1048576 := (HGd.out i hlt).2
      have hlen : n ≤ (k + 1) * 1048600 := by
        have h1 := hown.len
        have h2 := encR_len (fun j => (F j).mk62) w (k + 1) 1048576 (fun j hj => It.good62 (HGd.out j hj).1) (fun j hj => (HGd.out j hj).2) i hi
        have h3 : i * (1048576 + 24) ≤ (k + 1) * 1048600 := Nat.mul_le_mul hi (Nat.le_refl _)
        omega
      have hroom : n + (F i).mk62.n + 24 ≤ 140737488355328 := by have := HN.out; omega
      replace hown := hown.but ((But.refl (· = gl) wr).setCell (p := ⟨gl, i * 6 + 2, none⟩) rfl (.int .i64 (bits .and .i64 (F i).o 4611686018427387903))) (fun b hb e => by have := HB.out.2.1; omega)
      have hsn : encR (fun j => (F j).mk62) 0 (i + 1) = encR (fun j => (F j).mk62) 0 i ++ (F i).mk62.enc := by rw [encR_snoc, Nat.zero_add]
      obtain ⟨t, ht⟩ : ∃ t, t = (F i).mk62 := ⟨_, rfl⟩
      rw [← ht] at hX2 hgood hlaid hroom hsn
      clear x2 hfz hnn hlen ht hbut
      have y0 := hX2.c0
      have y1 := hX2.c1
      have y2 := hX2.c2
      have y3 := hX2.c3
      have y4 := hX2.c4
      have y5 := hX2.c5
      generalize wr.setCell ⟨gl, i * 6 + 2, none⟩ (.int .i64 (bits .and .i64 (F i).o 4611686018427387903)) = w5 at *
      go_wp2_with (first | (go_at_call 22; refine (lay_any a n c _ t _ hown.read hgood hlaid hroom).mono ?_; rintro e w6 ⟨a6, n6, c6, rfl, hown6, hb6⟩))
      go_roundw
      case rel =>
        refine ⟨i + 1, a6, n6, c6, by omega, by simp, rfl, ?_, hArr2.later hb6, hbut2.call hb6⟩
        rw [hsn]
        exact hown6.mono hbut2.size
      case measure => simp [intOf]; omega
    · obtain rfl : i = k + 1 := by omega
      have ecast : ((k + 1 : Nat) : Int) = (k : Int) + 1 := by simp
      rw [ecast]
      clear ecast
      have HE : Hid (Own wr W.heap.size a n c (encR (fun j => (F j).mk62) 0 (k + 1)) ∧ Arr wr gl (k + 1) (mixF F (k + 1)) ∧ But (· = gl) W wr) := ⟨hown, hArr, hbut⟩
      clear hown hArr hbut
      obtain ⟨E, hE⟩ : ∃ E, E = encR (fun j => (F j).mk62) 0 (k + 1) := ⟨_, rfl⟩
      have hlast : ((F k).mk62).enc.length = 8 := by
        rw [HFl.out]
        have : lastIt.mk62.enc = leL 72623859790382856 8 := enc3 (by decide)
        rw [this, leL_length]
      have hE8 : 8 ≤ E.length := by rw [hE, encR_snoc, List.length_append, Nat.zero_add, hlast]; omega
      have hEn : E.length = n := by rw [hE]; exact HE.out.1.len
      have hEb : n ≤ 2199023255552 := by
        have h2 := encR_len (fun j => (F j).mk62) w (k + 1) 1048576 (fun j hj => It.good62 (HGd.out j hj).1) (fun j hj => (HGd.out j hj).2) (k + 1) (Nat.le_refl _)
        have h3 : (k + 1) * (1048576 + 24) ≤ 1048577 * 1048600 := Nat.mul_le_mul (by have := HN.out; omega) (by omega)
        rw [← hE] at h2
        omega
      have HE2 : Hid (Own wr W.heap.size a n c E ∧ Arr wr gl (k + 1) (mixF F (k + 1)) ∧ But (· = gl) W wr) := by unfold Hid; rw [hE]; exact HE.out
      have HEE : Hid (E = encR (fun j => (F j).mk62) 0 (k + 1) ∧ E.length = n ∧ 8 ≤ n ∧ n ≤ 2199023255552) := ⟨hE, hEn, by omega, hEb⟩
      have hcapn := HE2.out.1.read.cap_
      obtain ⟨gb, ha⟩ : ∃ gb, a = some ⟨gb, 0, none⟩ := by
        rcases HE2.out.1.row.2 with ⟨h, h'⟩ | ⟨g, c', cur, hv, _⟩
        · omega
        · simp only [Value.slice.injEq] at hv; exact ⟨g, hv.1⟩
      subst ha
      have hn8 : 8 ≤ n := by omega
      clear HE hE hlast hE8 hEn hEb
      go_upto_region 10 with fail
      go_cut [5, 6, 7] (NewRel w W wr gl k F E)
      case first =>
        have en1 : IntKind.i64.wrap ((n : Int) - 1) = (n : Int) - 1 := by have := HEE.out; rw [IntKind.wrap_i64]; omega
        have hm0 : (0 : Int) ≤ (n : Int) - 1 := by omega
        have h1n : (1 : Int) < (n : Int) := by omega
        have h1m : (1 : Int) ≤ (n : Int) := by omega
        have hm1 : (n : Int) - 1 ≤ (c : Int) := by omega
        have hmt : ((n : Int) - 1).toNat = n - 1 := by omega
        have HEb : Hid (8 ≤ n ∧ n + 8 ≤ 140737488355328) := by have := HEE.out; exact ⟨by omega, by omega⟩
        have RE := (HE2.out.1.read).later ((Below.refl wr.heap.size wr).drew)
        have AR := (HE2.out.2.1).later ((Below.refl wr.heap.size wr).drew)
        have BT := (HE2.out.2.2).call ((Below.refl wr.heap.size wr).drew)
        have hgbl := HE2.out.1.lt gb ⟨_, rfl, rfl⟩
        have hgb0 := HE2.out.1.blk gb ⟨_, rfl, rfl⟩
        have hglw := HB.out.2.1
        have hwr0 := HE2.out.2.2.size
        refine wp_region_held_drew (S := fun _ => True) (by kernel_rfl) trivial (fun hHeld => ?_)
        have hu0 : wr.drew.heap.size ≤ wr.heap.size ∧ wr.heap.size ≤ wr.drew.heap.size := ⟨Nat.le_refl _, Nat.le_refl _⟩
        generalize wr.drew = u0 at *
        refine wpAnyH_norm (l2 := #[false, false, false, false, false, false, false, false, false, false, false, false, false, false, false, false, false, false]) (f2 := 18) (by kernel_rfl) (by kernel_rfl) ?_
        refine wpAnyH_take (i := 0) (oi := _) (v := ?_) rfl (by kernel_rfl) (by kernel_rfl) (by kernel_rfl) (fun _ _ _ h => h) (Or.inl ⟨by rfl, ?_⟩) (by assumption) ?_
        rotate_left
        · (intro w hSw; go_simp; try with_reducible rfl)
        simp only [List.getElem_toArray, List.getElem_cons_succ, List.getElem_cons_zero, Act.put, List.setIfInBounds_toArray, List.set_cons_zero, List.set_cons_succ]
        refine wpAnyH_norm (l2 := #[true, false, false, false, false, false, false, false, false, false, false, false, false, false, false, false, false, false]) (f2 := 17) (by kernel_rfl) (by kernel_rfl) ?_
        refine wpAnyH_take (i := 2) (oi := _) (v := ?_) rfl (by kernel_rfl) (by kernel_rfl) (by kernel_rfl) (fun _ _ _ h => h) (Or.inl ⟨by rfl, ?_⟩) (by assumption) ?_
        rotate_left
        · (intro w hSw; go_simp; try with_reducible rfl)
        simp only [List.getElem_toArray, List.getElem_cons_succ, List.getElem_cons_zero, Act.put, List.setIfInBounds_toArray, List.set_cons_zero, List.set_cons_succ]
        refine wpAnyH_norm (l2 := #[true, false, true, false, false, false, false, false, false, false, false, false, false, false, false, false, false, false]) (f2 := 16) (by kernel_rfl) (by kernel_rfl) ?_
        refine wpAnyH_take (i := 3) (oi := _) (v := ?_) rfl (by kernel_rfl) (by kernel_rfl) (by kernel_rfl) (fun _ _ _ h => h) (Or.inl ⟨by rfl, ?_⟩) (by assumption) ?_
        rotate_left
        · (intro w hSw; go_simp; try with_reducible rfl)
        simp only [List.getElem_toArray, List.getElem_cons_succ, List.getElem_cons_zero, Act.put, List.setIfInBounds_toArray, List.set_cons_zero, List.set_cons_succ]
        refine wpAnyH_norm (l2 := #[true, false, true, true, false, false, false, false, false, false, false, false, false, false, false, false, false, false]) (f2 := 15) (by kernel_rfl) (by kernel_rfl) ?_
        refine wpAnyH_take (i := 4) (oi := _) (v := ?_) rfl (by kernel_rfl) (by kernel_rfl) (by kernel_rfl) (fun _ _ _ h => h) (Or.inl ⟨by rfl, ?_⟩) (by assumption) ?_
        rotate_left
        · (intro w hSw; go_simp; try with_reducible rfl)
        simp only [List.getElem_toArray, List.getElem_cons_succ, List.getElem_cons_zero, Act.put, List.setIfInBounds_toArray, List.set_cons_zero, List.set_cons_succ]
        refine wpAnyH_norm (l2 := #[true, false, true, true, true, false, false, false, false, false, false, false, false, false, false, false, false, false]) (f2 := 14) (by kernel_rfl) (by kernel_rfl) ?_
        refine wpAnyH_take (i := 5) (oi := _) (v := ?_) rfl (by kernel_rfl) (by kernel_rfl) (by kernel_rfl) (fun _ _ _ h => h) (Or.inl ⟨by rfl, ?_⟩) (by assumption) ?_
        rotate_left
        · (intro w hSw; go_simp; try with_reducible rfl)
        simp only [List.getElem_toArray, List.getElem_cons_succ, List.getElem_cons_zero, Act.put, List.setIfInBounds_toArray, List.set_cons_zero, List.set_cons_succ]
        refine wpAnyH_norm (l2 := #[true, false, true, true, true, true, false, false, false, false, false, false, false, false, false, false, false, false]) (f2 := 13) (by kernel_rfl) (by kernel_rfl) ?_
        refine wpAnyH_take (i := 6) (oi := _) (v := ?_) rfl (by kernel_rfl) (by kernel_rfl) (by kernel_rfl) (fun _ _ _ h => h) (Or.inl ⟨by rfl, ?_⟩) (by assumption) ?_
        rotate_left
        · (intro w hSw; go_simp; try with_reducible rfl)
        simp only [List.getElem_toArray, List.getElem_cons_succ, List.getElem_cons_zero, Act.put, List.setIfInBounds_toArray, List.set_cons_zero, List.set_cons_succ]
        refine wpAnyH_norm (l2 := #[true, false, true, true, true, true, true, false, false, false, false, false, false, false, false, false, false, false]) (f2 := 12) (by kernel_rfl) (by kernel_rfl) ?_
        refine wpAnyH_take (i := 7) (oi := _) (v := ?_) rfl (by kernel_rfl) (by kernel_rfl) (by kernel_rfl) (fun _ _ _ h => h) (Or.inl ⟨by rfl, ?_⟩) (by assumption) ?_
        rotate_left
        · (intro w hSw; go_simp; try with_reducible rfl)
        simp only [List.getElem_toArray, List.getElem_cons_succ, List.getElem_cons_zero, Act.put, List.setIfInBounds_toArray, List.set_cons_zero, List.set_cons_succ]
        refine wpAnyH_norm (l2 := #[true, false, true, true, true, true, true, true, false, false, false, false, false, false, false, false, false, false]) (f2 := 11) (by kernel_rfl) (by kernel_rfl) ?_
        refine wpAnyH_take (i := 10) (oi := _) (v := ?_) rfl (by kernel_rfl) (by kernel_rfl) (by kernel_rfl) (fun _ _ _ h => h) (Or.inl ⟨by rfl, ?_⟩) (by assumption) ?_
        rotate_left
        · (intro w hSw; go_simp; try with_reducible rfl)
        simp only [List.getElem_toArray, List.getElem_cons_succ, List.getElem_cons_zero, Act.put, List.setIfInBounds_toArray, List.set_cons_zero, List.set_cons_succ]
        refine wpAnyH_norm (l2 := #[true, false, true, true, true, true, true, true, false, false, true, false, false, false, false, false, false, false]) (f2 := 10) (by kernel_rfl) (by kernel_rfl) ?_
        refine wpAnyH_ready (rs := [1, 9, 12]) (by kernel_rfl) (by simp) ?_
        refine AllReadyH.cons rfl (fun K hK => ?_) (AllReadyH.cons rfl (fun K hK => ?_) (AllReadyH.cons rfl (fun K hK => ?_) AllReadyH.nil))
        · go_simp
          go_wp2_with (first | (go_at_call 9; refine (newReader2 _ _ _ E _ RE (by have := HEb.out; omega)).mono ?_; rintro e u1 ⟨gr, br, rfl, rr, hgr, hbr, hlbr, hb⟩; replace AR := AR.later hb; replace RE := RE.later hb; replace BT := BT.call hb; have hmgr := rr.lt; have hzu1 := hb.size; clear hb))
          refine hK.out _ _ trivial (fun _ => ?_)
          clear hK K
          simp only [List.getElem_toArray, List.getElem_cons_succ, List.getElem_cons_zero, Act.put, List.setIfInBounds_toArray, List.set_cons_zero, List.set_cons_succ]
          refine wpAnyH_norm (l2 := #[true, true, true, true, true, true, true, true, false, false, true, false, false, false, false, false, false, false]) (f2 := 9) (by kernel_rfl) (by kernel_rfl) ?_
          refine wpAnyH_ready (rs := [8, 9, 12]) (by kernel_rfl) (by simp) ?_
          refine AllReadyH.cons rfl (fun K hK => ?_) (AllReadyH.cons rfl (fun K hK => ?_) (AllReadyH.cons rfl (fun K hK => ?_) AllReadyH.nil))
          · go_simp
            go_wp2_with (first | (go_at_call 9; refine (newReader2 _ _ _ (E.take (E.length - 1)) _ (row_take RE (by have := HEb.out; omega)) (by have := HEb.out; omega)).mono ?_; rintro e u2 ⟨gs, bs, rfl, rs, hgs, hbs, hlbs, hb⟩; replace AR := AR.later hb; replace RE := RE.later hb; replace rr := rr.later hb; replace BT := BT.call hb; have hmgs := rs.lt; have hzu2 := hb.size; clear hb))
            refine hK.out _ _ trivial (fun _ => ?_)
            clear hK K
            simp only [List.getElem_toArray, List.getElem_cons_succ, List.getElem_cons_zero, Act.put, List.setIfInBounds_toArray, List.set_cons_zero, List.set_cons_succ]
            refine wpAnyH_norm (l2 := #[true, true, true, true, true, true, true, true, true, false, true, false, false, false, false, false, false, false]) (f2 := 8) (by kernel_rfl) (by kernel_rfl) ?_
            refine wpAnyH_ready (rs := [9, 12]) (by kernel_rfl) (by simp) ?_
            refine AllReadyH.cons rfl (fun K hK => ?_) (AllReadyH.cons rfl (fun K hK => ?_) AllReadyH.nil)
            · go_simp
              refine hK.out _ _ trivial (fun _ => ?_)
              clear hK K
              simp only [List.getElem_toArray, List.getElem_cons_succ, List.getElem_cons_zero, Act.put, List.setIfInBounds_toArray, List.set_cons_zero, List.set_cons_succ]
              have hb := below1 u2 (Obj.cells #[] 5)
              have hzu3 : (u2.alloc (Obj.cells #[] 5)).heap.size ≤ u2.heap.size + 1 ∧ u2.heap.size + 1 ≤ (u2.alloc (Obj.cells #[] 5)).heap.size := by simp
              have O9 := Own.empty u2 u2.heap.size rfl
              replace AR := AR.later hb
              replace RE := RE.later hb
              replace rr := rr.later hb
              replace rs := rs.later hb
              replace BT := BT.call hb
              clear hb
              generalize u2.alloc (Obj.cells #[] 5) = u3 at *
              obtain ⟨g9, hqg9⟩ : ∃ g, g = u2.heap.size := ⟨_, rfl⟩
              rw [← hqg9]
              rw [← hqg9] at O9
              replace hqg9 := Nat.le_antisymm_iff.1 hqg9
              refine wpAnyH_norm (l2 := #[true, true, true, true, true, true, true, true, true, true, true, false, false, false, false, false, false, false]) (f2 := 7) (by kernel_rfl) (by kernel_rfl) ?_
              refine wpAnyH_ready (rs := [11, 12]) (by kernel_rfl) (by simp) ?_
              refine AllReadyH.cons rfl (fun K hK => ?_) (AllReadyH.cons rfl (fun K hK => ?_) AllReadyH.nil)
              · obtain ⟨a11, c11, u4, hrun, O11, hG⟩ := append_any O9 RE (by omega) (by have := HEb.out; omega)
                rw [Nat.zero_add, List.nil_append] at O11
                rw [Nat.zero_add] at hrun
                have hS : ∀ j, Blk (some ⟨g9, 0, none⟩) j → j = g9 := fun j hj => blk_some hj
                have hzu4 := hG.but.size
                have H11 : Hid (∀ j, Blk a11 j → j = g9 ∨ u3.heap.size ≤ j) := fun j hj => by rcases hG.on j hj with h1 | h1; exact .inl (hS j h1); exact .inr h1
                obtain ⟨z11, hz11⟩ : ∃ z, z = u3.heap.size := ⟨_, rfl⟩
                rw [← hz11] at H11
                replace hz11 := Nat.le_antisymm_iff.1 hz11
                replace RE := RE.but hG.but (fun j hj _ h2 => by have := blk_some hj; have := hS j h2; omega)
                replace AR := AR.but hG.but (fun h2 => by have := hS _ h2; omega)
                replace BT := BT.comp hG.but (fun j hj => by have := hS j hj; omega)
                replace rr := rr.but hG.but (fun h2 => by have := hS _ h2; omega) (fun h2 => by have := hS _ h2; omega)
                replace rs := rs.but hG.but (fun h2 => by have := hS _ h2; omega) (fun h2 => by have := hS _ h2; omega)
                clear O9 hS hG
                rw [if_pos (by kernel_rfl)]
                refine wp_append_known (.tmp 54) (.tmp 55) 22 rfl _ _ rfl rfl _ u4 hrun ?_
                refine hK.out _ _ trivial (fun _ => ?_)
                clear hK K
                simp only [List.getElem_toArray, List.getElem_cons_succ, List.getElem_cons_zero, Act.put, List.setIfInBounds_toArray, List.set_cons_zero, List.set_cons_succ]
                clear hrun
                refine wpAnyH_norm (l2 := #[true, true, true, true, true, true, true, true, true, true, true, true, false, false, false, false, false, false]) (f2 := 6) (by kernel_rfl) (by kernel_rfl) ?_
                refine wpAnyH_ready (rs := [12]) (by kernel_rfl) (by simp) ?_
                refine AllReadyH.cons rfl (fun K hK => ?_) AllReadyH.nil
                · go_simp
                  refine hK.out _ _ trivial (fun _ => ?_)
                  clear hK K
                  simp only [List.getElem_toArray, List.getElem_cons_succ, List.getElem_cons_zero, Act.put, List.setIfInBounds_toArray, List.set_cons_zero, List.set_cons_succ]
                  have hb := below1 u4 (Obj.cells #[.int .u8 7] 5)
                  have hzu5 : (u4.alloc (Obj.cells #[.int .u8 7] 5)).heap.size ≤ u4.heap.size + 1 ∧ u4.heap.size + 1 ≤ (u4.alloc (Obj.cells #[.int .u8 7] 5)).heap.size := by simp
                  have R7 := Row.one u4 7 (by omega)
                  simp only [Int.cast_ofNat_Int] at R7
                  replace AR := AR.later hb
                  replace O11 := O11.later hb
                  replace RE := RE.later hb
                  replace rr := rr.later hb
                  replace rs := rs.later hb
                  replace BT := BT.call hb
                  clear hb
                  generalize u4.alloc (Obj.cells #[.int .u8 7] 5) = u5 at *
                  obtain ⟨g7, hqg7⟩ : ∃ g, g = u4.heap.size := ⟨_, rfl⟩
                  rw [← hqg7]
                  rw [← hqg7] at R7
                  replace hqg7 := Nat.le_antisymm_iff.1 hqg7
                  refine wpAnyH_norm (l2 := #[true, true, true, true, true, true, true, true, true, true, true, true, true, false, false, false, false, false]) (f2 := 5) (by kernel_rfl) (by kernel_rfl) ?_
                  refine wpAnyH_ready (rs := [13]) (by kernel_rfl) (by simp) ?_
                  refine AllReadyH.cons rfl (fun K hK => ?_) AllReadyH.nil
                  · obtain ⟨a13, c13, u6, hrun, O13, hG⟩ := append_any O11 R7 (by omega) (by have := HEb.out; omega)
                    have hzu6 := hG.but.size
                    replace RE := RE.but hG.but (fun j hj _ h2 => by have := blk_some hj; have := H11.out j h2; omega)
                    replace AR := AR.but hG.but (fun h2 => by have := H11.out _ h2; omega)
                    replace BT := BT.comp hG.but (fun j hj => by have := H11.out j hj; omega)
                    replace rr := rr.but hG.but (fun h2 => by have := H11.out _ h2; omega) (fun h2 => by have := H11.out _ h2; omega)
                    replace rs := rs.but hG.but (fun h2 => by have := H11.out _ h2; omega) (fun h2 => by have := H11.out _ h2; omega)
                    clear O11 R7 hG H11
                    rw [if_pos (by kernel_rfl)]
                    refine wp_append_known (.tmp 56) (.tmp 57) 22 rfl _ _ rfl rfl _ u6 hrun ?_
                    refine hK.out _ _ trivial (fun _ => ?_)
                    clear hK K
                    simp only [List.getElem_toArray, List.getElem_cons_succ, List.getElem_cons_zero, Act.put, List.setIfInBounds_toArray, List.set_cons_zero, List.set_cons_succ]
                    clear hrun
                    refine wpAnyH_norm (l2 := #[true, true, true, true, true, true, true, true, true, true, true, true, true, true, false, false, false, false]) (f2 := 4) (by kernel_rfl) (by kernel_rfl) ?_
                    refine wpAnyH_ready (rs := [14]) (by kernel_rfl) (by simp) ?_
                    refine AllReadyH.cons rfl (fun K hK => ?_) AllReadyH.nil
                    · go_simp
                      go_wp2_with (first | (go_at_call 9; refine (newReader2 _ _ _ (E ++ [7]) _ O13.read (by have := HEb.out; omega)).mono ?_; rintro e u7 ⟨gt, bt, rfl, rt, hgt, hbt, hlbt, hb⟩; replace AR := AR.later hb; replace O13 := O13.later hb; replace RE := RE.later hb; replace rr := rr.later hb; replace rs := rs.later hb; replace BT := BT.call hb; have hmgt := rt.lt; have hzu7 := hb.size; clear hb))
                      refine hK.out _ _ trivial (fun _ => ?_)
                      clear hK K
                      simp only [List.getElem_toArray, List.getElem_cons_succ, List.getElem_cons_zero, Act.put, List.setIfInBounds_toArray, List.set_cons_zero, List.set_cons_succ]
                      refine wpAnyH_norm (l2 := #[true, true, true, true, true, true, true, true, true, true, true, true, true, true, true, false, false, false]) (f2 := 3) (by kernel_rfl) (by kernel_rfl) ?_
                      refine wpAnyH_take (i := 15) (oi := _) (v := ?_) rfl (by kernel_rfl) (by kernel_rfl) (by kernel_rfl) (fun _ _ _ h => h) (Or.inl ⟨by rfl, ?_⟩) (by assumption) ?_
                      rotate_left
                      · (intro w hSw; go_simp; try with_reducible rfl)
                      simp only [List.getElem_toArray, List.getElem_cons_succ, List.getElem_cons_zero, Act.put, List.setIfInBounds_toArray, List.set_cons_zero, List.set_cons_succ]
                      refine wpAnyH_norm (l2 := #[true, true, true, true, true, true, true, true, true, true, true, true, true, true, true, true, false, false]) (f2 := 2) (by kernel_rfl) (by kernel_rfl) ?_
                      refine wpAnyH_take (i := 16) (oi := _) (v := ?_) rfl (by kernel_rfl) (by kernel_rfl) (by kernel_rfl) (fun _ _ _ h => h) (Or.inl ⟨by rfl, ?_⟩) (by assumption) ?_
                      rotate_left
                      · (intro w hSw; go_simp; try with_reducible rfl)
                      simp only [List.getElem_toArray, List.getElem_cons_succ, List.getElem_cons_zero, Act.put, List.setIfInBounds_toArray, List.set_cons_zero, List.set_cons_succ]
                      refine wpAnyH_norm (l2 := #[true, true, true, true, true, true, true, true, true, true, true, true, true, true, true, true, true, false]) (f2 := 1) (by kernel_rfl) (by kernel_rfl) ?_
                      refine wpAnyH_take (i := 17) (oi := _) (v := ?_) rfl (by kernel_rfl) (by kernel_rfl) (by kernel_rfl) (fun _ _ _ h => h) (Or.inl ⟨by rfl, ?_⟩) (by assumption) ?_
                      rotate_left
                      · (intro w hSw; go_simp; try with_reducible rfl)
                      simp only [List.getElem_toArray, List.getElem_cons_succ, List.getElem_cons_zero, Act.put, List.setIfInBounds_toArray, List.set_cons_zero, List.set_cons_succ]
                      refine wpAnyH_norm (l2 := #[true, true, true, true, true, true, true, true, true, true, true, true, true, true, true, true, true, true]) (f2 := 0) (by kernel_rfl) (by kernel_rfl) ?_
                      refine wpAnyH_done (by kernel_rfl) ?_ _
                      go_wp2_with fail
                      go_meet
                      case rel => exact ⟨gr, br, gs, bs, gt, bt, rfl, rfl, rfl, rr, rs, rt, AR, BT, ⟨by omega, by omega, by omega⟩, ⟨by omega, by omega, by omega, by omega, by omega, by omega, by omega, by omega, by omega⟩, by omega⟩
              · go_simp
                refine hK.out _ _ trivial (fun _ => ?_)
                clear hK K
                simp only [List.getElem_toArray, List.getElem_cons_succ, List.getElem_cons_zero, Act.put, List.setIfInBounds_toArray, List.set_cons_zero, List.set_cons_succ]
                have hb := below1 u3 (Obj.cells #[.int .u8 7] 5)
                have hzu8 : (u3.alloc (Obj.cells #[.int .u8 7] 5)).heap.size ≤ u3.heap.size + 1 ∧ u3.heap.size + 1 ≤ (u3.alloc (Obj.cells #[.int .u8 7] 5)).heap.size := by simp
                have R7 := Row.one u3 7 (by omega)
                simp only [Int.cast_ofNat_Int] at R7
                replace AR := AR.later hb
                replace O9 := O9.later hb
                replace RE := RE.later hb
                replace rr := rr.later hb
                replace rs := rs.later hb
                replace BT := BT.call hb
                clear hb
                generalize u3.alloc (Obj.cells #[.int .u8 7] 5) = u8 at *
                obtain ⟨g7, hqg7⟩ : ∃ g, g = u3.heap.size := ⟨_, rfl⟩
                rw [← hqg7]
                rw [← hqg7] at R7
                replace hqg7 := Nat.le_antisymm_iff.1 hqg7
                refine wpAnyH_norm (l2 := #[true, true, true, true, true, true, true, true, true, true, true, false, true, false, false, false, false, false]) (f2 := 6) (by kernel_rfl) (by kernel_rfl) ?_
                refine wpAnyH_ready (rs := [11]) (by kernel_rfl) (by simp) ?_
                refine AllReadyH.cons rfl (fun K hK => ?_) AllReadyH.nil
                · obtain ⟨a11, c11, u9, hrun, O11, hG⟩ := append_any O9 RE (by omega) (by have := HEb.out; omega)
                  rw [Nat.zero_add, List.nil_append] at O11
                  rw [Nat.zero_add] at hrun
                  have hS : ∀ j, Blk (some ⟨g9, 0, none⟩) j → j = g9 := fun j hj => blk_some hj
                  have hzu9 := hG.but.size
                  have H11 : Hid (∀ j, Blk a11 j → j = g9 ∨ u8.heap.size ≤ j) := fun j hj => by rcases hG.on j hj with h1 | h1; exact .inl (hS j h1); exact .inr h1
                  obtain ⟨z11, hz11⟩ : ∃ z, z = u8.heap.size := ⟨_, rfl⟩
                  rw [← hz11] at H11
                  replace hz11 := Nat.le_antisymm_iff.1 hz11
                  replace RE := RE.but hG.but (fun j hj _ h2 => by have := blk_some hj; have := hS j h2; omega)
                  replace AR := AR.but hG.but (fun h2 => by have := hS _ h2; omega)
                  replace BT := BT.comp hG.but (fun j hj => by have := hS j hj; omega)
                  replace rr := rr.but hG.but (fun h2 => by have := hS _ h2; omega) (fun h2 => by have := hS _ h2; omega)
                  replace rs := rs.but hG.but (fun h2 => by have := hS _ h2; omega) (fun h2 => by have := hS _ h2; omega)
                  replace R7 := R7.but hG.but (fun j hj _ h2 => by have := blk_some hj; have := hS j h2; omega)
                  clear O9 hS hG
                  rw [if_pos (by kernel_rfl)]
                  refine wp_append_known (.tmp 54) (.tmp 55) 22 rfl _ _ rfl rfl _ u9 hrun ?_
                  refine hK.out _ _ trivial (fun _ => ?_)
                  clear hK K
                  simp only [List.getElem_toArray, List.getElem_cons_succ, List.getElem_cons_zero, Act.put, List.setIfInBounds_toArray, List.set_cons_zero, List.set_cons_succ]
                  clear hrun
                  refine wpAnyH_norm (l2 := #[true, true, true, true, true, true, true, true, true, true, true, true, true, false, false, false, false, false]) (f2 := 5) (by kernel_rfl) (by kernel_rfl) ?_
                  refine wpAnyH_ready (rs := [13]) (by kernel_rfl) (by simp) ?_
                  refine AllReadyH.cons rfl (fun K hK => ?_) AllReadyH.nil
                  · obtain ⟨a13, c13, u10, hrun, O13, hG⟩ := append_any O11 R7 (by omega) (by have := HEb.out; omega)
                    have hzu10 := hG.but.size
                    replace RE := RE.but hG.but (fun j hj _ h2 => by have := blk_some hj; have := H11.out j h2; omega)
                    replace AR := AR.but hG.but (fun h2 => by have := H11.out _ h2; omega)
                    replace BT := BT.comp hG.but (fun j hj => by have := H11.out j hj; omega)
                    replace rr := rr.but hG.but (fun h2 => by have := H11.out _ h2; omega) (fun h2 => by have := H11.out _ h2; omega)
                    replace rs := rs.but hG.but (fun h2 => by have := H11.out _ h2; omega) (fun h2 => by have := H11.out _ h2; omega)
                    clear O11 R7 hG H11
                    rw [if_pos (by kernel_rfl)]
                    refine wp_append_known (.tmp 56) (.tmp 57) 22 rfl _ _ rfl rfl _ u10 hrun ?_
                    refine hK.out _ _ trivial (fun _ => ?_)
                    clear hK K
                    simp only [List.getElem_toArray, List.getElem_cons_succ, List.getElem_cons_zero, Act.put, List.setIfInBounds_toArray, List.set_cons_zero, List.set_cons_succ]
                    clear hrun
                    refine wpAnyH_norm (l2 := #[true, true, true, true, true, true, true, true, true, true, true, true, true, true, false, false, false, false]) (f2 := 4) (by kernel_rfl) (by kernel_rfl) ?_
                    refine wpAnyH_ready (rs := [14]) (by kernel_rfl) (by simp) ?_
                    refine AllReadyH.cons rfl (fun K hK => ?_) AllReadyH.nil
                    · go_simp
                      go_wp2_with (first | (go_at_call 9; refine (newReader2 _ _ _ (E ++ [7]) _ O13.read (by have := HEb.out; omega)).mono ?_; rintro e u11 ⟨gt, bt, rfl, rt, hgt, hbt, hlbt, hb⟩; replace AR := AR.later hb; replace O13 := O13.later hb; replace RE := RE.later hb; replace rr := rr.later hb; replace rs := rs.later hb; replace BT := BT.call hb; have hmgt := rt.lt; have hzu11 := hb.size; clear hb))
                      refine hK.out _ _ trivial (fun _ => ?_)
                      clear hK K
                      simp only [List.getElem_toArray, List.getElem_cons_succ, List.getElem_cons_zero, Act.put, List.setIfInBounds_toArray, List.set_cons_zero, List.set_cons_succ]
                      refine wpAnyH_norm (l2 := #[true, true, true, true, true, true, true, true, true, true, true, true, true, true, true, false, false, false]) (f2 := 3) (by kernel_rfl) (by kernel_rfl) ?_
                      refine wpAnyH_take (i := 15) (oi := _) (v := ?_) rfl (by kernel_rfl) (by kernel_rfl) (by kernel_rfl) (fun _ _ _ h => h) (Or.inl ⟨by rfl, ?_⟩) (by assumption) ?_
                      rotate_left
                      · (intro w hSw; go_simp; try with_reducible rfl)
                      simp only [List.getElem_toArray, List.getElem_cons_succ, List.getElem_cons_zero, Act.put, List.setIfInBounds_toArray, List.set_cons_zero, List.set_cons_succ]
                      refine wpAnyH_norm (l2 := #[true, true, true, true, true, true, true, true, true, true, true, true, true, true, true, true, false, false]) (f2 := 2) (by kernel_rfl) (by kernel_rfl) ?_
                      refine wpAnyH_take (i := 16) (oi := _) (v := ?_) rfl (by kernel_rfl) (by kernel_rfl) (by kernel_rfl) (fun _ _ _ h => h) (Or.inl ⟨by rfl, ?_⟩) (by assumption) ?_
                      rotate_left
                      · (intro w hSw; go_simp; try with_reducible rfl)
                      simp only [List.getElem_toArray, List.getElem_cons_succ, List.getElem_cons_zero, Act.put, List.setIfInBounds_toArray, List.set_cons_zero, List.set_cons_succ]
                      refine wpAnyH_norm (l2 := #[true, true, true, true, true, true, true, true, true, true, true, true, true, true, true, true, true, false]) (f2 := 1) (by kernel_rfl) (by kernel_rfl) ?_
                      refine wpAnyH_take (i := 17) (oi := _) (v := ?_) rfl (by kernel_rfl) (by kernel_rfl) (by kernel_rfl) (fun _ _ _ h => h) (Or.inl ⟨by rfl, ?_⟩) (by assumption) ?_
                      rotate_left
                      · (intro w hSw; go_simp; try with_reducible rfl)
                      simp only [List.getElem_toArray, List.getElem_cons_succ, List.getElem_cons_zero, Act.put, List.setIfInBounds_toArray, List.set_cons_zero, List.set_cons_succ]
                      refine wpAnyH_norm (l2 := #[true, true, true, true, true, true, true, true, true, true, true, true, true, true, true, true, true, true]) (f2 := 0) (by kernel_rfl) (by kernel_rfl) ?_
                      refine wpAnyH_done (by kernel_rfl) ?_ _
                      go_wp2_with fail
                      go_meet
                      case rel => exact ⟨gr, br, gs, bs, gt, bt, rfl, rfl, rfl, rr, rs, rt, AR, BT, ⟨by omega, by omega, by omega⟩, ⟨by omega, by omega, by omega, by omega, by omega, by omega, by omega, by omega, by omega⟩, by omega⟩
            · go_simp
              refine hK.out _ _ trivial (fun _ => ?_)
              clear hK K
              simp only [List.getElem_toArray, List.getElem_cons_succ, List.getElem_cons_zero, Act.put, List.setIfInBounds_toArray, List.set_cons_zero, List.set_cons_succ]
              have hb := below1 u2 (Obj.cells #[.int .u8 7] 5)
              have hzu12 : (u2.alloc (Obj.cells #[.int .u8 7] 5)).heap.size ≤ u2.heap.size + 1 ∧ u2.heap.size + 1 ≤ (u2.alloc (Obj.cells #[.int .u8 7] 5)).heap.size := by simp
              have R7 := Row.one u2 7 (by omega)
              simp only [Int.cast_ofNat_Int] at R7
              replace AR := AR.later hb
              replace RE := RE.later hb
              replace rr := rr.later hb
              replace rs := rs.later hb
              replace BT := BT.call hb
              clear hb
              generalize u2.alloc (Obj.cells #[.int .u8 7] 5) = u12 at *
              obtain ⟨g7, hqg7⟩ : ∃ g, g = u2.heap.size := ⟨_, rfl⟩
              rw [← hqg7]
              rw [← hqg7] at R7
              replace hqg7 := Nat.le_antisymm_iff.1 hqg7
              refine wpAnyH_norm (l2 := #[true, true, true, true, true, true, true, true, true, false, true, false, true, false, false, false, false, false]) (f2 := 7) (by kernel_rfl) (by kernel_rfl) ?_
              refine wpAnyH_ready (rs := [9]) (by kernel_rfl) (by simp) ?_
              refine AllReadyH.cons rfl (fun K hK => ?_) AllReadyH.nil
              · go_simp
                refine hK.out _ _ trivial (fun _ => ?_)
                clear hK K
                simp only [List.getElem_toArray, List.getElem_cons_succ, List.getElem_cons_zero, Act.put, List.setIfInBounds_toArray, List.set_cons_zero, List.set_cons_succ]
                have hb := below1 u12 (Obj.cells #[] 5)
                have hzu13 : (u12.alloc (Obj.cells #[] 5)).heap.size ≤ u12.heap.size + 1 ∧ u12.heap.size + 1 ≤ (u12.alloc (Obj.cells #[] 5)).heap.size := by simp
                have O9 := Own.empty u12 u12.heap.size rfl
                replace AR := AR.later hb
                replace R7 := R7.later hb
                replace RE := RE.later hb
                replace rr := rr.later hb
                replace rs := rs.later hb
                replace BT := BT.call hb
                clear hb
                generalize u12.alloc (Obj.cells #[] 5) = u13 at *
                obtain ⟨g9, hqg9⟩ : ∃ g, g = u12.heap.size := ⟨_, rfl⟩
                rw [← hqg9]
                rw [← hqg9] at O9
                replace hqg9 := Nat.le_antisymm_iff.1 hqg9
                refine wpAnyH_norm (l2 := #[true, true, true, true, true, true, true, true, true, true, true, false, true, false, false, false, false, false]) (f2 := 6) (by kernel_rfl) (by kernel_rfl) ?_
                refine wpAnyH_ready (rs := [11]) (by kernel_rfl) (by simp) ?_
                refine AllReadyH.cons rfl (fun K hK => ?_) AllReadyH.nil
                · obtain ⟨a11, c11, u14, hrun, O11, hG⟩ := append_any O9 RE (by omega) (by have := HEb.out; omega)
                  rw [Nat.zero_add, List.nil_append] at O11
                  rw [Nat.zero_add] at hrun
                  have hS : ∀ j, Blk (some ⟨g9, 0, none⟩) j → j = g9 := fun j hj => blk_some hj
                  have hzu14 := hG.but.size
                  have H11 : Hid (∀ j, Blk a11 j → j = g9 ∨ u13.heap.size ≤ j) := fun j hj => by rcases hG.on j hj with h1 | h1; exact .inl (hS j h1); exact .inr h1
                  obtain ⟨z11, hz11⟩ : ∃ z, z = u13.heap.size := ⟨_, rfl⟩
                  rw [← hz11] at H11
                  replace hz11 := Nat.le_antisymm_iff.1 hz11
                  replace RE := RE.but hG.but (fun j hj _ h2 => by have := blk_some hj; have := hS j h2; omega)
                  replace AR := AR.but hG.but (fun h2 => by have := hS _ h2; omega)
                  replace BT := BT.comp hG.but (fun j hj => by have := hS j hj; omega)
                  replace rr := rr.but hG.but (fun h2 => by have := hS _ h2; omega) (fun h2 => by have := hS _ h2; omega)
                  replace rs := rs.but hG.but (fun h2 => by have := hS _ h2; omega) (fun h2 => by have := hS _ h2; omega)
                  replace R7 := R7.but hG.but (fun j hj _ h2 => by have := blk_some hj; have := hS j h2; omega)
                  clear O9 hS hG
                  rw [if_pos (by kernel_rfl)]
                  refine wp_append_known (.tmp 54) (.tmp 55) 22 rfl _ _ rfl rfl _ u14 hrun ?_
                  refine hK.out _ _ trivial (fun _ => ?_)
                  clear hK K
                  simp only [List.getElem_toArray, List.getElem_cons_succ, List.getElem_cons_zero, Act.put, List.setIfInBounds_toArray, List.set_cons_zero, List.set_cons_succ]
                  clear hrun
                  refine wpAnyH_norm (l2 := #[true, true, true, true, true, true, true, true, true, true, true, true, true, false, false, false, false, false]) (f2 := 5) (by kernel_rfl) (by kernel_rfl) ?_
                  refine wpAnyH_ready (rs := [13]) (by kernel_rfl) (by simp) ?_
                  refine AllReadyH.cons rfl (fun K hK => ?_) AllReadyH.nil
                  · obtain ⟨a13, c13, u15, hrun, O13, hG⟩ := append_any O11 R7 (by omega) (by have := HEb.out; omega)
                    have hzu15 := hG.but.size
                    replace RE := RE.but hG.but (fun j hj _ h2 => by have := blk_some hj; have := H11.out j h2; omega)
                    replace AR := AR.but hG.but (fun h2 => by have := H11.out _ h2; omega)
                    replace BT := BT.comp hG.but (fun j hj => by have := H11.out j hj; omega)
                    replace rr := rr.but hG.but (fun h2 => by have := H11.out _ h2; omega) (fun h2 => by have := H11.out _ h2; omega)
                    replace rs := rs.but hG.but (fun h2 => by have := H11.out _ h2; omega) (fun h2 => by have := H11.out _ h2; omega)
                    clear O11 R7 hG H11
                    rw [if_pos (by kernel_rfl)]
                    refine wp_append_known (.tmp 56) (.tmp 57) 22 rfl _ _ rfl rfl _ u15 hrun ?_
                    refine hK.out _ _ trivial (fun _ => ?_)
                    clear hK K
                    simp only [List.getElem_toArray, List.getElem_cons_succ, List.getElem_cons_zero, Act.put, List.setIfInBounds_toArray, List.set_cons_zero, List.set_cons_succ]
                    clear hrun
                    refine wpAnyH_norm (l2 := #[true, true, true, true, true, true, true, true, true, true, true, true, true, true, false, false, false, false]) (f2 := 4) (by kernel_rfl) (by kernel_rfl) ?_
                    refine wpAnyH_ready (rs := [14]) (by kernel_rfl) (by simp) ?_
                    refine AllReadyH.cons rfl (fun K hK => ?_) AllReadyH.nil
                    · go_simp
                      go_wp2_with (first | (go_at_call 9; refine (newReader2 _ _ _ (E ++ [7]) _ O13.read (by have := HEb.out; omega)).mono ?_; rintro e u16 ⟨gt, bt, rfl, rt, hgt, hbt, hlbt, hb⟩; replace AR := AR.later hb; replace O13 := O13.later hb; replace RE := RE.later hb; replace rr := rr.later hb; replace rs := rs.later hb; replace BT := BT.call hb; have hmgt := rt.lt; have hzu16 := hb.size; clear hb))
                      refine hK.out _ _ trivial (fun _ => ?_)
                      clear hK K
                      simp only [List.getElem_toArray, List.getElem_cons_succ, List.getElem_cons_zero, Act.put, List.setIfInBounds_toArray, List.set_cons_zero, List.set_cons_succ]
                      refine wpAnyH_norm (l2 := #[true, true, true, true, true, true, true, true, true, true, true, true, true, true, true, false, false, false]) (f2 := 3) (by kernel_rfl) (by kernel_rfl) ?_
                      refine wpAnyH_take (i := 15) (oi := _) (v := ?_) rfl (by kernel_rfl) (by kernel_rfl) (by kernel_rfl) (fun _ _ _ h => h) (Or.inl ⟨by rfl, ?_⟩) (by assumption) ?_
                      rotate_left
                      · (intro w hSw; go_simp; try with_reducible rfl)
                      simp only [List.getElem_toArray, List.getElem_cons_succ, List.getElem_cons_zero, Act.put, List.setIfInBounds_toArray, List.set_cons_zero, List.set_cons_succ]
                      refine wpAnyH_norm (l2 := #[true, true, true, true, true, true, true, true, true, true, true, true, true, true, true, true, false, false]) (f2 := 2) (by kernel_rfl) (by kernel_rfl) ?_
                      refine wpAnyH_take (i := 16) (oi := _) (v := ?_) rfl (by kernel_rfl) (by kernel_rfl) (by kernel_rfl) (fun _ _ _ h => h) (Or.inl ⟨by rfl, ?_⟩) (by assumption) ?_
                      rotate_left
                      · (intro w hSw; go_simp; try with_reducible rfl)
                      simp only [List.getElem_toArray, List.getElem_cons_succ, List.getElem_cons_zero, Act.put, List.setIfInBounds_toArray, List.set_cons_zero, List.set_cons_succ]
                      refine wpAnyH_norm (l2 := #[true, true, true, true, true, true, true, true, true, true, true, true, true, true, true, true, true, false]) (f2 := 1) (by kernel_rfl) (by kernel_rfl) ?_
                      refine wpAnyH_take (i := 17) (oi := _) (v := ?_) rfl (by kernel_rfl) (by kernel_rfl) (by kernel_rfl) (fun _ _ _ h => h) (Or.inl ⟨by rfl, ?_⟩) (by assumption) ?_
                      rotate_left
                      · (intro w hSw; go_simp; try with_reducible rfl)
                      simp only [List.getElem_toArray, List.getElem_cons_succ, List.getElem_cons_zero, Act.put, List.setIfInBounds_toArray, List.set_cons_zero, List.set_cons_succ]
                      refine wpAnyH_norm (l2 := #[true, true, true, true, true, true, true, true, true, true, true, true, true, true, true, true, true, true]) (f2 := 0) (by kernel_rfl) (by kernel_rfl) ?_
                      refine wpAnyH_done (by kernel_rfl) ?_ _
                      go_wp2_with fail
                      go_meet
                      case rel => exact ⟨gr, br, gs, bs, gt, bt, rfl, rfl, rfl, rr, rs, rt, AR, BT, ⟨by omega, by omega, by omega⟩, ⟨by omega, by omega, by omega, by omega, by omega, by omega, by omega, by omega, by omega⟩, by omega⟩
          · go_simp
            refine hK.out _ _ trivial (fun _ => ?_)
            clear hK K
            simp only [List.getElem_toArray, List.getElem_cons_succ, List.getElem_cons_zero, Act.put, List.setIfInBounds_toArray, List.set_cons_zero, List.set_cons_succ]
            have hb := below1 u1 (Obj.cells #[] 5)
            have hzu17 : (u1.alloc (Obj.cells #[] 5)).heap.size ≤ u1.heap.size + 1 ∧ u1.heap.size + 1 ≤ (u1.alloc (Obj.cells #[] 5)).heap.size := by simp
            have O9 := Own.empty u1 u1.heap.size rfl
            replace AR := AR.later hb
            replace RE := RE.later hb
            replace rr := rr.later hb
            replace BT := BT.call hb
            clear hb
            generalize u1.alloc (Obj.cells #[] 5) = u17 at *
            obtain ⟨g9, hqg9⟩ : ∃ g, g = u1.heap.size := ⟨_, rfl⟩
            rw [← hqg9]
            rw [← hqg9] at O9
            replace hqg9 := Nat.le_antisymm_iff.1 hqg9
            refine wpAnyH_norm (l2 := #[true, true, true, true, true, true, true, true, false, true, true, false, false, false, false, false, false, false]) (f2 := 8) (by kernel_rfl) (by kernel_rfl) ?_
            refine wpAnyH_ready (rs := [8, 12]) (by kernel_rfl) (by simp) ?_
            refine AllReadyH.cons rfl (fun K hK => ?_) (AllReadyH.cons rfl (fun K hK => ?_) AllReadyH.nil)
            · go_simp
              go_wp2_with (first | (go_at_call 9; refine (newReader2 _ _ _ (E.take (E.length - 1)) _ (row_take RE (by have := HEb.out; omega)) (by have := HEb.out; omega)).mono ?_; rintro e u18 ⟨gs, bs, rfl, rs, hgs, hbs, hlbs, hb⟩; replace AR := AR.later hb; replace O9 := O9.later hb; replace RE := RE.later hb; replace rr := rr.later hb; replace BT := BT.call hb; have hmgs := rs.lt; have hzu18 := hb.size; clear hb))
              refine hK.out _ _ trivial (fun _ => ?_)
              clear hK K
              simp only [List.getElem_toArray, List.getElem_cons_succ, List.getElem_cons_zero, Act.put, List.setIfInBounds_toArray, List.set_cons_zero, List.set_cons_succ]
              refine wpAnyH_norm (l2 := #[true, true, true, true, true, true, true, true, true, true, true, false, false, false, false, false, false, false]) (f2 := 7) (by kernel_rfl) (by kernel_rfl) ?_
              refine wpAnyH_ready (rs := [11, 12]) (by kernel_rfl) (by simp) ?_
              refine AllReadyH.cons rfl (fun K hK => ?_) (AllReadyH.cons rfl (fun K hK => ?_) AllReadyH.nil)
              · obtain ⟨a11, c11, u19, hrun, O11, hG⟩ := append_any O9 RE (by omega) (by have := HEb.out; omega)
                rw [Nat.zero_add, List.nil_append] at O11
                rw [Nat.zero_add] at hrun
                have hS : ∀ j, Blk (some ⟨g9, 0, none⟩) j → j = g9 := fun j hj => blk_some hj
                have hzu19 := hG.but.size
                have H11 : Hid (∀ j, Blk a11 j → j = g9 ∨ u18.heap.size ≤ j) := fun j hj => by rcases hG.on j hj with h1 | h1; exact .inl (hS j h1); exact .inr h1
                obtain ⟨z11, hz11⟩ : ∃ z, z = u18.heap.size := ⟨_, rfl⟩
                rw [← hz11] at H11
                replace hz11 := Nat.le_antisymm_iff.1 hz11
                replace RE := RE.but hG.but (fun j hj _ h2 => by have := blk_some hj; have := hS j h2; omega)
                replace AR := AR.but hG.but (fun h2 => by have := hS _ h2; omega)
                replace BT := BT.comp hG.but (fun j hj => by have := hS j hj; omega)
                replace rr := rr.but hG.but (fun h2 => by have := hS _ h2; omega) (fun h2 => by have := hS _ h2; omega)
                replace rs := rs.but hG.but (fun h2 => by have := hS _ h2; omega) (fun h2 => by have := hS _ h2; omega)
                clear O9 hS hG
                rw [if_pos (by kernel_rfl)]
                refine wp_append_known (.tmp 54) (.tmp 55) 22 rfl _ _ rfl rfl _ u19 hrun ?_
                refine hK.out _ _ trivial (fun _ => ?_)
                clear hK K
                simp only [List.getElem_toArray, List.getElem_cons_succ, List.getElem_cons_zero, Act.put, List.setIfInBounds_toArray, List.set_cons_zero, List.set_cons_succ]
                clear hrun
                refine wpAnyH_norm (l2 := #[true, true, true, true, true, true, true, true, true, true, true, true, false, false, false, false, false, false]) (f2 := 6) (by kernel_rfl) (by kernel_rfl) ?_
                refine wpAnyH_ready (rs := [12]) (by kernel_rfl) (by simp) ?_
                refine AllReadyH.cons rfl (fun K hK => ?_) AllReadyH.nil
                · go_simp
                  refine hK.out _ _ trivial (fun _ => ?_)
                  clear hK K
                  simp only [List.getElem_toArray, List.getElem_cons_succ, List.getElem_cons_zero, Act.put, List.setIfInBounds_toArray, List.set_cons_zero, List.set_cons_succ]
                  have hb := below1 u19 (Obj.cells #[.int .u8 7] 5)
                  have hzu20 : (u19.alloc (Obj.cells #[.int .u8 7] 5)).heap.size ≤ u19.heap.size + 1 ∧ u19.heap.size + 1 ≤ (u19.alloc (Obj.cells #[.int .u8 7] 5)).heap.size := by simp
                  have R7 := Row.one u19 7 (by omega)
                  simp only [Int.cast_ofNat_Int] at R7
                  replace AR := AR.later hb
                  replace O11 := O11.later hb
                  replace RE := RE.later hb
                  replace rr := rr.later hb
                  replace rs := rs.later hb
                  replace BT := BT.call hb
                  clear hb
                  generalize u19.alloc (Obj.cells #[.int .u8 7] 5) = u20 at *
                  obtain ⟨g7, hqg7⟩ : ∃ g, g = u19.heap.size := ⟨_, rfl⟩
                  rw [← hqg7]
                  rw [← hqg7] at R7
                  replace hqg7 := Nat.le_antisymm_iff.1 hqg7
                  refine wpAnyH_norm (l2 := #[true, true, true, true, true, true, true, true, true, true, true, true, true, false, false, false, false, false]) (f2 := 5) (by kernel_rfl) (by kernel_rfl) ?_
                  refine wpAnyH_ready (rs := [13]) (by kernel_rfl) (by simp) ?_
                  refine AllReadyH.cons rfl (fun K hK => ?_) AllReadyH.nil
                  · obtain ⟨a13, c13, u21, hrun, O13, hG⟩ := append_any O11 R7 (by omega) (by have := HEb.out; omega)
                    have hzu21 := hG.but.size
                    replace RE := RE.but hG.but (fun j hj _ h2 => by have := blk_some hj; have := H11.out j h2; omega)
                    replace AR := AR.but hG.but (fun h2 => by have := H11.out _ h2; omega)
                    replace BT := BT.comp hG.but (fun j hj => by have := H11.out j hj; omega)
                    replace rr := rr.but hG.but (fun h2 => by have := H11.out _ h2; omega) (fun h2 => by have := H11.out _ h2; omega)
                    replace rs := rs.but hG.but (fun h2 => by have := H11.out _ h2; omega) (fun h2 => by have := H11.out _ h2; omega)
                    clear O11 R7 hG H11
                    rw [if_pos (by kernel_rfl)]
                    refine wp_append_known (.tmp 56) (.tmp 57) 22 rfl _ _ rfl rfl _ u21 hrun ?_
                    refine hK.out _ _ trivial (fun _ => ?_)
                    clear hK K
                    simp only [List.getElem_toArray, List.getElem_cons_succ, List.getElem_cons_zero, Act.put, List.setIfInBounds_toArray, List.set_cons_zero, List.set_cons_succ]
                    clear hrun
                    refine wpAnyH_norm (l2 := #[true, true, true, true, true, true, true, true, true, true, true, true, true, true, false, false, false, false]) (f2 := 4) (by kernel_rfl) (by kernel_rfl) ?_
                    refine wpAnyH_ready (rs := [14]) (by kernel_rfl) (by simp) ?_
                    refine AllReadyH.cons rfl (fun K hK => ?_) AllReadyH.nil
                    · go_simp
                      go_wp2_with (first | (go_at_call 9; refine (newReader2 _ _ _ (E ++ [7]) _ O13.read (by have := HEb.out; omega)).mono ?_; rintro e u22 ⟨gt, bt, rfl, rt, hgt, hbt, hlbt, hb⟩; replace AR := AR.later hb; replace O13 := O13.later hb; replace RE := RE.later hb; replace rr := rr.later hb; replace rs := rs.later hb; replace BT := BT.call hb; have hmgt := rt.lt; have hzu22 := hb.size; clear hb))
                      refine hK.out _ _ trivial (fun _ => ?_)
                      clear hK K
                      simp only [List.getElem_toArray, List.getElem_cons_succ, List.getElem_cons_zero, Act.put, List.setIfInBounds_toArray, List.set_cons_zero, List.set_cons_succ]
                      refine wpAnyH_norm (l2 := #[true, true, true, true, true, true, true, true, true, true, true, true, true, true, true, false, false, false]) (f2 := 3) (by kernel_rfl) (by kernel_rfl) ?_
                      refine wpAnyH_take (i := 15) (oi := _) (v := ?_) rfl (by kernel_rfl) (by kernel_rfl) (by kernel_rfl) (fun _ _ _ h => h) (Or.inl ⟨by rfl, ?_⟩) (by assumption) ?_
                      rotate_left
                      · (intro w hSw; go_simp; try with_reducible rfl)
                      simp only [List.getElem_toArray, List.getElem_cons_succ, List.getElem_cons_zero, Act.put, List.setIfInBounds_toArray, List.set_cons_zero, List.set_cons_succ]
                      refine wpAnyH_norm (l2 := #[true, true, true, true, true, true, true, true, true, true, true, true, true, true, true, true, false, false]) (f2 := 2) (by kernel_rfl) (by kernel_rfl) ?_
                      refine wpAnyH_take (i := 16) (oi := _) (v := ?_) rfl (by kernel_rfl) (by kernel_rfl) (by kernel_rfl) (fun _ _ _ h => h) (Or.inl ⟨by rfl, ?_⟩) (by assumption) ?_
                      rotate_left
                      · (intro w hSw; go_simp; try with_reducible rfl)
                      simp only [List.getElem_toArray, List.getElem_cons_succ, List.getElem_cons_zero, Act.put, List.setIfInBounds_toArray, List.set_cons_zero, List.set_cons_succ]
                      refine wpAnyH_norm (l2 := #[true, true, true, true, true, true, true, true, true, true, true, true, true, true, true, true, true, false]) (f2 := 1) (by kernel_rfl) (by kernel_rfl) ?_
                      refine wpAnyH_take (i := 17) (oi := _) (v := ?_) rfl (by kernel_rfl) (by kernel_rfl) (by kernel_rfl) (fun _ _ _ h => h) (Or.inl ⟨by rfl, ?_⟩) (by assumption) ?_
                      rotate_left
                      · (intro w hSw; go_simp; try with_reducible rfl)
                      simp only [List.getElem_toArray, List.getElem_cons_succ, List.getElem_cons_zero, Act.put, List.setIfInBounds_toArray, List.set_cons_zero, List.set_cons_succ]
                      refine wpAnyH_norm (l2 := #[true, true, true, true, true, true, true, true, true, true, true, true, true, true, true, true, true, true]) (f2 := 0) (by kernel_rfl) (by kernel_rfl) ?_
                      refine wpAnyH_done (by kernel_rfl) ?_ _
                      go_wp2_with fail
                      go_meet
                      case rel => exact ⟨gr, br, gs, bs, gt, bt, rfl, rfl, rfl, rr, rs, rt, AR, BT, ⟨by omega, by omega, by omega⟩, ⟨by omega, by omega, by omega, by omega, by omega, by omega, by omega, by omega, by omega⟩, by omega⟩
              · go_simp
                refine hK.out _ _ trivial (fun _ => ?_)
                clear hK K
                simp only [List.getElem_toArray, List.getElem_cons_succ, List.getElem_cons_zero, Act.put, List.setIfInBounds_toArray, List.set_cons_zero, List.set_cons_succ]
                have hb := below1 u18 (Obj.cells #[.int .u8 7] 5)
                have hzu23 : (u18.alloc (Obj.cells #[.int .u8 7] 5)).heap.size ≤ u18.heap.size + 1 ∧ u18.heap.size + 1 ≤ (u18.alloc (Obj.cells #[.int .u8 7] 5)).heap.size := by simp
                have R7 := Row.one u18 7 (by omega)
                simp only [Int.cast_ofNat_Int] at R7
                replace AR := AR.later hb
                replace O9 := O9.later hb
                replace RE := RE.later hb
                replace rr := rr.later hb
                replace rs := rs.later hb
                replace BT := BT.call hb
                clear hb
                generalize u18.alloc (Obj.cells #[.int .u8 7] 5) = u23 at *
                obtain ⟨g7, hqg7⟩ : ∃ g, g = u18.heap.size := ⟨_, rfl⟩
                rw [← hqg7]
                rw [← hqg7] at R7
                replace hqg7 := Nat.le_antisymm_iff.1 hqg7
                refine wpAnyH_norm (l2 := #[true, true, true, true, true, true, true, true, true, true, true, false, true, false, false, false, false, false]) (f2 := 6) (by kernel_rfl) (by kernel_rfl) ?_
                refine wpAnyH_ready (rs := [11]) (by kernel_rfl) (by simp) ?_
                refine AllReadyH.cons rfl (fun K hK => ?_) AllReadyH.nil
                · obtain ⟨a11, c11, u24, hrun, O11, hG⟩ := append_any O9 RE (by omega) (by have := HEb.out; omega)
                  rw [Nat.zero_add, List.nil_append] at O11
                  rw [Nat.zero_add] at hrun
                  have hS : ∀ j, Blk (some ⟨g9, 0, none⟩) j → j = g9 := fun j hj => blk_some hj
                  have hzu24 := hG.but.size
                  have H11 : Hid (∀ j, Blk a11 j → j = g9 ∨ u23.heap.size ≤ j) := fun j hj => by rcases hG.on j hj with h1 | h1; exact .inl (hS j h1); exact .inr h1
                  obtain ⟨z11, hz11⟩ : ∃ z, z = u23.heap.size := ⟨_, rfl⟩
                  rw [← hz11] at H11
                  replace hz11 := Nat.le_antisymm_iff.1 hz11
                  replace RE := RE.but hG.but (fun j hj _ h2 => by have := blk_some hj; have := hS j h2; omega)
                  replace AR := AR.but hG.but (fun h2 => by have := hS _ h2; omega)
                  replace BT := BT.comp hG.but (fun j hj => by have := hS j hj; omega)
                  replace rr := rr.but hG.but (fun h2 => by have := hS _ h2; omega) (fun h2 => by have := hS _ h2; omega)
                  replace rs := rs.but hG.but (fun h2 => by have := hS _ h2; omega) (fun h2 => by have := hS _ h2; omega)
                  replace R7 := R7.but hG.but (fun j hj _ h2 => by have := blk_some hj; have := hS j h2; omega)
                  clear O9 hS hG
                  rw [if_pos (by kernel_rfl)]
                  refine wp_append_known (.tmp 54) (.tmp 55) 22 rfl _ _ rfl rfl _ u24 hrun ?_
                  refine hK.out _ _ trivial (fun _ => ?_)
                  clear hK K
                  simp only [List.getElem_toArray, List.getElem_cons_succ, List.getElem_cons_zero, Act.put, List.setIfInBounds_toArray, List.set_cons_zero, List.set_cons_succ]
                  clear hrun
                  refine wpAnyH_norm (l2 := #[true, true, true, true, true, true, true, true, true, true, true, true, true, false, false, false, false, false]) (f2 := 5) (by kernel_rfl) (by kernel_rfl) ?_
                  refine wpAnyH_ready (rs := [13]) (by kernel_rfl) (by simp) ?_
                  refine AllReadyH.cons rfl (fun K hK => ?_) AllReadyH.nil
                  · obtain ⟨a13, c13, u25, hrun, O13, hG⟩ := append_any O11 R7 (by omega) (by have := HEb.out; omega)
                    have hzu25 := hG.but.size
                    replace RE := RE.but hG.but (fun j hj _ h2 => by have := blk_some hj; have := H11.out j h2; omega)
                    replace AR := AR.but hG.but (fun h2 => by have := H11.out _ h2; omega)
                    replace BT := BT.comp hG.but (fun j hj => by have := H11.out j hj; omega)
                    replace rr := rr.but hG.but (fun h2 => by have := H11.out _ h2; omega) (fun h2 => by have := H11.out _ h2; omega)
                    replace rs := rs.but hG.but (fun h2 => by have := H11.out _ h2; omega) (fun h2 => by have := H11.out _ h2; omega)
                    clear O11 R7 hG H11
                    rw [if_pos (by kernel_rfl)]
                    refine wp_append_known (.tmp 56) (.tmp 57) 22 rfl _ _ rfl rfl _ u25 hrun ?_
                    refine hK.out _ _ trivial (fun _ => ?_)
                    clear hK K
                    simp only [List.getElem_toArray, List.getElem_cons_succ, List.getElem_cons_zero, Act.put, List.setIfInBounds_toArray, List.set_cons_zero, List.set_cons_succ]
                    clear hrun
                    refine wpAnyH_norm (l2 := #[true, true, true, true, true, true, true, true, true, true, true, true, true, true, false, false, false, false]) (f2 := 4) (by kernel_rfl) (by kernel_rfl) ?_
                    refine wpAnyH_ready (rs := [14]) (by kernel_rfl) (by simp) ?_
                    refine AllReadyH.cons rfl (fun K hK => ?_) AllReadyH.nil
                    · go_simp
                      go_wp2_with (first | (go_at_call 9; refine (newReader2 _ _ _ (E ++ [7]) _ O13.read (by have := HEb.out; omega)).mono ?_; rintro e u26 ⟨gt, bt, rfl, rt, hgt, hbt, hlbt, hb⟩; replace AR := AR.later hb; replace O13 := O13.later hb; replace RE := RE.later hb; replace rr := rr.later hb; replace rs := rs.later hb; replace BT := BT.call hb; have hmgt := rt.lt; have hzu26 := hb.size; clear hb))
                      refine hK.out _ _ trivial (fun _ => ?_)
                      clear hK K
                      simp only [List.getElem_toArray, List.getElem_cons_succ, List.getElem_cons_zero, Act.put, List.setIfInBounds_toArray, List.set_cons_zero, List.set_cons_succ]
                      refine wpAnyH_norm (l2 := #[true, true, true, true, true, true, true, true, true, true, true, true, true, true, true, false, false, false]) (f2 := 3) (by kernel_rfl) (by kernel_rfl) ?_
                      refine wpAnyH_take (i := 15) (oi := _) (v := ?_) rfl (by kernel_rfl) (by kernel_rfl) (by kernel_rfl) (fun _ _ _ h => h) (Or.inl ⟨by rfl, ?_⟩) (by assumption) ?_
                      rotate_left
                      · (intro w hSw; go_simp; try with_reducible rfl)
                      simp only [List.getElem_toArray, List.getElem_cons_succ, List.getElem_cons_zero, Act.put, List.setIfInBounds_toArray, List.set_cons_zero, List.set_cons_succ]
                      refine wpAnyH_norm (l2 := #[true, true, true, true, true, true, true, true, true, true, true, true, true, true, true, true, false, false]) (f2 := 2) (by kernel_rfl) (by kernel_rfl) ?_
                      refine wpAnyH_take (i := 16) (oi := _) (v := ?_) rfl (by kernel_rfl) (by kernel_rfl) (by kernel_rfl) (fun _ _ _ h => h) (Or.inl ⟨by rfl, ?_⟩) (by assumption) ?_
                      rotate_left
                      · (intro w hSw; go_simp; try with_reducible rfl)
                      simp only [List.getElem_toArray, List.getElem_cons_succ, List.getElem_cons_zero, Act.put, List.setIfInBounds_toArray, List.set_cons_zero, List.set_cons_succ]
                      refine wpAnyH_norm (l2 := #[true, true, true, true, true, true, true, true, true, true, true, true, true, true, true, true, true, false]) (f2 := 1) (by kernel_rfl) (by kernel_rfl) ?_
                      refine wpAnyH_take (i := 17) (oi := _) (v := ?_) rfl (by kernel_rfl) (by kernel_rfl) (by kernel_rfl) (fun _ _ _ h => h) (Or.inl ⟨by rfl, ?_⟩) (by assumption) ?_
                      rotate_left
                      · (intro w hSw; go_simp; try with_reducible rfl)
                      simp only [List.getElem_toArray, List.getElem_cons_succ, List.getElem_cons_zero, Act.put, List.setIfInBounds_toArray, List.set_cons_zero, List.set_cons_succ]
                      refine wpAnyH_norm (l2 := #[true, true, true, true, true, true, true, true, true, true, true, true, true, true, true, true, true, true]) (f2 := 0) (by kernel_rfl) (by kernel_rfl) ?_
                      refine wpAnyH_done (by kernel_rfl) ?_ _
                      go_wp2_with fail
                      go_meet
                      case rel => exact ⟨gr, br, gs, bs, gt, bt, rfl, rfl, rfl, rr, rs, rt, AR, BT, ⟨by omega, by omega, by omega⟩, ⟨by omega, by omega, by omega, by omega, by omega, by omega, by omega, by omega, by omega⟩, by omega⟩
            · go_simp
              refine hK.out _ _ trivial (fun _ => ?_)
              clear hK K
              simp only [List.getElem_toArray, List.getElem_cons_succ, List.getElem_cons_zero, Act.put, List.setIfInBounds_toArray, List.set_cons_zero, List.set_cons_succ]
              have hb := below1 u17 (Obj.cells #[.int .u8 7] 5)
              have hzu27 : (u17.alloc (Obj.cells #[.int .u8 7] 5)).heap.size ≤ u17.heap.size + 1 ∧ u17.heap.size + 1 ≤ (u17.alloc (Obj.cells #[.int .u8 7] 5)).heap.size := by simp
              have R7 := Row.one u17 7 (by omega)
              simp only [Int.cast_ofNat_Int] at R7
              replace AR := AR.later hb
              replace O9 := O9.later hb
              replace RE := RE.later hb
              replace rr := rr.later hb
              replace BT := BT.call hb
              clear hb
              generalize u17.alloc (Obj.cells #[.int .u8 7] 5) = u27 at *
              obtain ⟨g7, hqg7⟩ : ∃ g, g = u17.heap.size := ⟨_, rfl⟩
              rw [← hqg7]
              rw [← hqg7] at R7
              replace hqg7 := Nat.le_antisymm_iff.1 hqg7
              refine wpAnyH_norm (l2 := #[true, true, true, true, true, true, true, true, false, true, true, false, true, false, false, false, false, false]) (f2 := 7) (by kernel_rfl) (by kernel_rfl) ?_
              refine wpAnyH_ready (rs := [8]) (by kernel_rfl) (by simp) ?_
              refine AllReadyH.cons rfl (fun K hK => ?_) AllReadyH.nil
              · go_simp
                go_wp2_with (first | (go_at_call 9; refine (newReader2 _ _ _ (E.take (E.length - 1)) _ (row_take RE (by have := HEb.out; omega)) (by have := HEb.out; omega)).mono ?_; rintro e u28 ⟨gs, bs, rfl, rs, hgs, hbs, hlbs, hb⟩; replace AR := AR.later hb; replace O9 := O9.later hb; replace R7 := R7.later hb; replace RE := RE.later hb; replace rr := rr.later hb; replace BT := BT.call hb; have hmgs := rs.lt; have hzu28 := hb.size; clear hb))
                refine hK.out _ _ trivial (fun _ => ?_)
                clear hK K
                simp only [List.getElem_toArray, List.getElem_cons_succ, List.getElem_cons_zero, Act.put, List.setIfInBounds_toArray, List.set_cons_zero, List.set_cons_succ]
                refine wpAnyH_norm (l2 := #[true, true, true, true, true, true, true, true, true, true, true, false, true, false, false, false, false, false]) (f2 := 6) (by kernel_rfl) (by kernel_rfl) ?_
                refine wpAnyH_ready (rs := [11]) (by kernel_rfl) (by simp) ?_
                refine AllReadyH.cons rfl (fun K hK => ?_) AllReadyH.nil
                · obtain ⟨a11, c11, u29, hrun, O11, hG⟩ := append_any O9 RE (by omega) (by have := HEb.out; omega)
                  rw [Nat.zero_add, List.nil_append] at O11
                  rw [Nat.zero_add] at hrun
                  have hS : ∀ j, Blk (some ⟨g9, 0, none⟩) j → j = g9 := fun j hj => blk_some hj
                  have hzu29 := hG.but.size
                  have H11 : Hid (∀ j, Blk a11 j → j = g9 ∨ u28.heap.size ≤ j) := fun j hj => by rcases hG.on j hj with h1 | h1; exact .inl (hS j h1); exact .inr h1
                  obtain ⟨z11, hz11⟩ : ∃ z, z = u28.heap.size := ⟨_, rfl⟩
                  rw [← hz11] at H11
                  replace hz11 := Nat.le_antisymm_iff.1 hz11
                  replace RE := RE.but hG.but (fun j hj _ h2 => by have := blk_some hj; have := hS j h2; omega)
                  replace AR := AR.but hG.but (fun h2 => by have := hS _ h2; omega)
                  replace BT := BT.comp hG.but (fun j hj => by have := hS j hj; omega)
                  replace rr := rr.but hG.but (fun h2 => by have := hS _ h2; omega) (fun h2 => by have := hS _ h2; omega)
                  replace rs := rs.but hG.but (fun h2 => by have := hS _ h2; omega) (fun h2 => by have := hS _ h2; omega)
                  replace R7 := R7.but hG.but (fun j hj _ h2 => by have := blk_some hj; have := hS j h2; omega)
                  clear O9 hS hG
                  rw [if_pos (by kernel_rfl)]
                  refine wp_append_known (.tmp 54) (.tmp 55) 22 rfl _ _ rfl rfl _ u29 hrun ?_
                  refine hK.out _ _ trivial (fun _ => ?_)
                  clear hK K
                  simp only [List.getElem_toArray, List.getElem_cons_succ, List.getElem_cons_zero, Act.put, List.setIfInBounds_toArray, List.set_cons_zero, List.set_cons_succ]
                  clear hrun
                  refine wpAnyH_norm (l2 := #[true, true, true, true, true, true, true, true, true, true, true, true, true, false, false, false, false, false]) (f2 := 5) (by kernel_rfl) (by kernel_rfl) ?_
                  refine wpAnyH_ready (rs := [13]) (by kernel_rfl) (by simp) ?_
                  refine AllReadyH.cons rfl (fun K hK => ?_) AllReadyH.nil
                  · obtain ⟨a13, c13, u30, hrun, O13, hG⟩ := append_any O11 R7 (by omega) (by have := HEb.out; omega)
                    have hzu30 := hG.but.size
                    replace RE := RE.but hG.but (fun j hj _ h2 => by have := blk_some hj; have := H11.out j h2; omega)
                    replace AR := AR.but hG.but (fun h2 => by have := H11.out _ h2; omega)
                    replace BT := BT.comp hG.but (fun j hj => by have := H11.out j hj; omega)
                    replace rr := rr.but hG.but (fun h2 => by have := H11.out _ h2; omega) (fun h2 => by have := H11.out _ h2; omega)
                    replace rs := rs.but hG.but (fun h2 => by have := H11.out _ h2; omega) (fun h2 => by have := H11.out _ h2; omega)
                    clear O11 R7 hG H11
                    rw [if_pos (by kernel_rfl)]
                    refine wp_append_known (.tmp 56) (.tmp 57) 22 rfl _ _ rfl rfl _ u30 hrun ?_
                    refine hK.out _ _ trivial (fun _ => ?_)
                    clear hK K
                    simp only [List.getElem_toArray, List.getElem_cons_succ, List.getElem_cons_zero, Act.put, List.setIfInBounds_toArray, List.set_cons_zero, List.set_cons_succ]
                    clear hrun
                    refine wpAnyH_norm (l2 := #[true, true, true, true, true, true, true, true, true, true, true, true, true, true, false, false, false, false]) (f2 := 4) (by kernel_rfl) (by kernel_rfl) ?_
                    refine wpAnyH_ready (rs := [14]) (by kernel_rfl) (by simp) ?_
                    refine AllReadyH.cons rfl (fun K hK => ?_) AllReadyH.nil
                    · go_simp
                      go_wp2_with (first | (go_at_call 9; refine (newReader2 _ _ _ (E ++ [7]) _ O13.read (by have := HEb.out; omega)).mono ?_; rintro e u31 ⟨gt, bt, rfl, rt, hgt, hbt, hlbt, hb⟩; replace AR := AR.later hb; replace O13 := O13.later hb; replace RE := RE.later hb; replace rr := rr.later hb; replace rs := rs.later hb; replace BT := BT.call hb; have hmgt := rt.lt; have hzu31 := hb.size; clear hb))
                      refine hK.out _ _ trivial (fun _ => ?_)
                      clear hK K
                      simp only [List.getElem_toArray, List.getElem_cons_succ, List.getElem_cons_zero, Act.put, List.setIfInBounds_toArray, List.set_cons_zero, List.set_cons_succ]
                      refine wpAnyH_norm (l2 := #[true, true, true, true, true, true, true, true, true, true, true, true, true, true, true, false, false, false]) (f2 := 3) (by kernel_rfl) (by kernel_rfl) ?_
                      refine wpAnyH_take (i := 15) (oi := _) (v := ?_) rfl (by kernel_rfl) (by kernel_rfl) (by kernel_rfl) (fun _ _ _ h => h) (Or.inl ⟨by rfl, ?_⟩) (by assumption) ?_
                      rotate_left
                      · (intro w hSw; go_simp; try with_reducible rfl)
                      simp only [List.getElem_toArray, List.getElem_cons_succ, List.getElem_cons_zero, Act.put, List.setIfInBounds_toArray, List.set_cons_zero, List.set_cons_succ]
                      refine wpAnyH_norm (l2 := #[true, true, true, true, true, true, true, true, true, true, true, true, true, true, true, true, false, false]) (f2 := 2) (by kernel_rfl) (by kernel_rfl) ?_
                      refine wpAnyH_take (i := 16) (oi := _) (v := ?_) rfl (by kernel_rfl) (by kernel_rfl) (by kernel_rfl) (fun _ _ _ h => h) (Or.inl ⟨by rfl, ?_⟩) (by assumption) ?_
                      rotate_left
                      · (intro w hSw; go_simp; try with_reducible rfl)
                      simp only [List.getElem_toArray, List.getElem_cons_succ, List.getElem_cons_zero, Act.put, List.setIfInBounds_toArray, List.set_cons_zero, List.set_cons_succ]
                      refine wpAnyH_norm (l2 := #[true, true, true, true, true, true, true, true, true, true, true, true, true, true, true, true, true, false]) (f2 := 1) (by kernel_rfl) (by kernel_rfl) ?_
                      refine wpAnyH_take (i := 17) (oi := _) (v := ?_) rfl (by kernel_rfl) (by kernel_rfl) (by kernel_rfl) (fun _ _ _ h => h) (Or.inl ⟨by rfl, ?_⟩) (by assumption) ?_
                      rotate_left
                      · (intro w hSw; go_simp; try with_reducible rfl)
                      simp only [List.getElem_toArray, List.getElem_cons_succ, List.getElem_cons_zero, Act.put, List.setIfInBounds_toArray, List.set_cons_zero, List.set_cons_succ]
                      refine wpAnyH_norm (l2 := #[true, true, true, true, true, true, true, true, true, true, true, true, true, true, true, true, true, true]) (f2 := 0) (by kernel_rfl) (by kernel_rfl) ?_
                      refine wpAnyH_done (by kernel_rfl) ?_ _
                      go_wp2_with fail
                      go_meet
                      case rel => exact ⟨gr, br, gs, bs, gt, bt, rfl, rfl, rfl, rr, rs, rt, AR, BT, ⟨by omega, by omega, by omega⟩, ⟨by omega, by omega, by omega, by omega, by omega, by omega, by omega, by omega, by omega⟩, by omega⟩
          · go_simp
            refine hK.out _ _ trivial (fun _ => ?_)
            clear hK K
            simp only [List.getElem_toArray, List.getElem_cons_succ, List.getElem_cons_zero, Act.put, List.setIfInBounds_toArray, List.set_cons_zero, List.set_cons_succ]
            have hb := below1 u1 (Obj.cells #[.int .u8 7] 5)
            have hzu32 : (u1.alloc (Obj.cells #[.int .u8 7] 5)).heap.size ≤ u1.heap.size + 1 ∧ u1.heap.size + 1 ≤ (u1.alloc (Obj.cells #[.int .u8 7] 5)).heap.size := by simp
            have R7 := Row.one u1 7 (by omega)
            simp only [Int.cast_ofNat_Int] at R7
            replace AR := AR.later hb
            replace RE := RE.later hb
            replace rr := rr.later hb
            replace BT := BT.call hb
            clear hb
            generalize u1.alloc (Obj.cells #[.int .u8 7] 5) = u32 at *
            obtain ⟨g7, hqg7⟩ : ∃ g, g = u1.heap.size := ⟨_, rfl⟩
            rw [← hqg7]
            rw [← hqg7] at R7
            replace hqg7 := Nat.le_antisymm_iff.1 hqg7
            refine wpAnyH_norm (l2 := #[true, true, true, true, true, true, true, true, false, false, true, false, true, false, false, false, false, false]) (f2 := 8) (by kernel_rfl) (by kernel_rfl) ?_
            refine wpAnyH_ready (rs := [8, 9]) (by kernel_rfl) (by simp) ?_
            refine AllReadyH.cons rfl (fun K hK => ?_) (AllReadyH.cons rfl (fun K hK => ?_) AllReadyH.nil)
            · go_simp
              go_wp2_with (first | (go_at_call 9; refine (newReader2 _ _ _ (E.take (E.length - 1)) _ (row_take RE (by have := HEb.out; omega)) (by have := HEb.out; omega)).mono ?_; rintro e u33 ⟨gs, bs, rfl, rs, hgs, hbs, hlbs, hb⟩; replace AR := AR.later hb; replace R7 := R7.later hb; replace RE := RE.later hb; replace rr := rr.later hb; replace BT := BT.call hb; have hmgs := rs.lt; have hzu33 := hb.size; clear hb))
              refine hK.out _ _ trivial (fun _ => ?_)
              clear hK K
              simp only [List.getElem_toArray, List.getElem_cons_succ, List.getElem_cons_zero, Act.put, List.setIfInBounds_toArray, List.set_cons_zero, List.set_cons_succ]
              refine wpAnyH_norm (l2 := #[true, true, true, true, true, true, true, true, true, false, true, false, true, false, false, false, false, false]) (f2 := 7) (by kernel_rfl) (by kernel_rfl) ?_
              refine wpAnyH_ready (rs := [9]) (by kernel_rfl) (by simp) ?_
              refine AllReadyH.cons rfl (fun K hK => ?_) AllReadyH.nil
              · go_simp
                refine hK.out _ _ trivial (fun _ => ?_)
                clear hK K
                simp only [List.getElem_toArray, List.getElem_cons_succ, List.getElem_cons_zero, Act.put, List.setIfInBounds_toArray, List.set_cons_zero, List.set_cons_succ]
                have hb := below1 u33 (Obj.cells #[] 5)
                have hzu34 : (u33.alloc (Obj.cells #[] 5)).heap.size ≤ u33.heap.size + 1 ∧ u33.heap.size + 1 ≤ (u33.alloc (Obj.cells #[] 5)).heap.size := by simp
                have O9 := Own.empty u33 u33.heap.size rfl
                replace AR := AR.later hb
                replace R7 := R7.later hb
                replace RE := RE.later hb
                replace rr := rr.later hb
                replace rs := rs.later hb
                replace BT := BT.call hb
                clear hb
                generalize u33.alloc (Obj.cells #[] 5) = u34 at *
                obtain ⟨g9, hqg9⟩ : ∃ g, g = u33.heap.size := ⟨_, rfl⟩
                rw [← hqg9]
                rw [← hqg9] at O9
                replace hqg9 := Nat.le_antisymm_iff.1 hqg9
                refine wpAnyH_norm (l2 := #[true, true, true, true, true, true, true, true, true, true, true, false, true, false, false, false, false, false]) (f2 := 6) (by kernel_rfl) (by kernel_rfl) ?_
                refine wpAnyH_ready (rs := [11]) (by kernel_rfl) (by simp) ?_
                refine AllReadyH.cons rfl (fun K hK => ?_) AllReadyH.nil
                · obtain ⟨a11, c11, u35, hrun, O11, hG⟩ := append_any O9 RE (by omega) (by have := HEb.out; omega)
                  rw [Nat.zero_add, List.nil_append] at O11
                  rw [Nat.zero_add] at hrun
                  have hS : ∀ j, Blk (some ⟨g9, 0, none⟩) j → j = g9 := fun j hj => blk_some hj
                  have hzu35 := hG.but.size
                  have H11 : Hid (∀ j, Blk a11 j → j = g9 ∨ u34.heap.size ≤ j) := fun j hj => by rcases hG.on j hj with h1 | h1; exact .inl (hS j h1); exact .inr h1
                  obtain ⟨z11, hz11⟩ : ∃ z, z = u34.heap.size := ⟨_, rfl⟩
                  rw [← hz11] at H11
                  replace hz11 := Nat.le_antisymm_iff.1 hz11
                  replace RE := RE.but hG.but (fun j hj _ h2 => by have := blk_some hj; have := hS j h2; omega)
                  replace AR := AR.but hG.but (fun h2 => by have := hS _ h2; omega)
                  replace BT := BT.comp hG.but (fun j hj => by have := hS j hj; omega)
                  replace rr := rr.but hG.but (fun h2 => by have := hS _ h2; omega) (fun h2 => by have := hS _ h2; omega)
                  replace rs := rs.but hG.but (fun h2 => by have := hS _ h2; omega) (fun h2 => by have := hS _ h2; omega)
                  replace R7 := R7.but hG.but (fun j hj _ h2 => by have := blk_some hj; have := hS j h2; omega)
                  clear O9 hS hG
                  rw [if_pos (by kernel_rfl)]
                  refine wp_append_known (.tmp 54) (.tmp 55) 22 rfl _ _ rfl rfl _ u35 hrun ?_
                  refine hK.out _ _ trivial (fun _ => ?_)
                  clear hK K
                  simp only [List.getElem_toArray, List.getElem_cons_succ, List.getElem_cons_zero, Act.put, List.setIfInBounds_toArray, List.set_cons_zero, List.set_cons_succ]
                  clear hrun
                  refine wpAnyH_norm (l2 := #[true, true, true, true, true, true, true, true, true, true, true, true, true, false, false, false, false, false]) (f2 := 5) (by kernel_rfl) (by kernel_rfl) ?_
                  refine wpAnyH_ready (rs := [13]) (by kernel_rfl) (by simp) ?_
                  refine AllReadyH.cons rfl (fun K hK => ?_) AllReadyH.nil
                  · obtain ⟨a13, c13, u36, hrun, O13, hG⟩ := append_any O11 R7 (by omega) (by have := HEb.out; omega)
                    have hzu36 := hG.but.size
                    replace RE := RE.but hG.but (fun j hj _ h2 => by have := blk_some hj; have := H11.out j h2; omega)
                    replace AR := AR.but hG.but (fun h2 => by have := H11.out _ h2; omega)
                    replace BT := BT.comp hG.but (fun j hj => by have := H11.out j hj; omega)
                    replace rr := rr.but hG.but (fun h2 => by have := H11.out _ h2; omega) (fun h2 => by have := H11.out _ h2; omega)
                    replace rs := rs.but hG.but (fun h2 => by have := H11.out _ h2; omega) (fun h2 => by have := H11.out _ h2; omega)
                    clear O11 R7 hG H11
                    rw [if_pos (by kernel_rfl)]
                    refine wp_append_known (.tmp 56) (.tmp 57) 22 rfl _ _ rfl rfl _ u36 hrun ?_
                    refine hK.out _ _ trivial (fun _ => ?_)
                    clear hK K
                    simp only [List.getElem_toArray, List.getElem_cons_succ, List.getElem_cons_zero, Act.put, List.setIfInBounds_toArray, List.set_cons_zero, List.set_cons_succ]
                    clear hrun
                    refine wpAnyH_norm (l2 := #[true, true, true, true, true, true, true, true, true, true, true, true, true, true, false, false, false, false]) (f2 := 4) (by kernel_rfl) (by kernel_rfl) ?_
                    refine wpAnyH_ready (rs := [14]) (by kernel_rfl) (by simp) ?_
                    refine AllReadyH.cons rfl (fun K hK => ?_) AllReadyH.nil
                    · go_simp
                      go_wp2_with (first | (go_at_call 9; refine (newReader2 _ _ _ (E ++ [7]) _ O13.read (by have := HEb.out; omega)).mono ?_; rintro e u37 ⟨gt, bt, rfl, rt, hgt, hbt, hlbt, hb⟩; replace AR := AR.later hb; replace O13 := O13.later hb; replace RE := RE.later hb; replace rr := rr.later hb; replace rs := rs.later hb; replace BT := BT.call hb; have hmgt := rt.lt; have hzu37 := hb.size; clear hb))
                      refine hK.out _ _ trivial (fun _ => ?_)
                      clear hK K
                      simp only [List.getElem_toArray, List.getElem_cons_succ, List.getElem_cons_zero, Act.put, List.setIfInBounds_toArray, List.set_cons_zero, List.set_cons_succ]
                      refine wpAnyH_norm (l2 := #[true, true, true, true, true, true, true, true, true, true, true, true, true, true, true, false, false, false]) (f2 := 3) (by kernel_rfl) (by kernel_rfl) ?_
                      refine wpAnyH_take (i := 15) (oi := _) (v := ?_) rfl (by kernel_rfl) (by kernel_rfl) (by kernel_rfl) (fun _ _ _ h => h) (Or.inl ⟨by rfl, ?_⟩) (by assumption) ?_
                      rotate_left
                      · (intro w hSw; go_simp; try with_reducible rfl)
                      simp only [List.getElem_toArray, List.getElem_cons_succ, List.getElem_cons_zero, Act.put, List.setIfInBounds_toArray, List.set_cons_zero, List.set_cons_succ]
                      refine wpAnyH_norm (l2 := #[true, true, true, true, true, true, true, true, true, true, true, true, true, true, true, true, false, false]) (f2 := 2) (by kernel_rfl) (by kernel_rfl) ?_
                      refine wpAnyH_take (i := 16) (oi := _) (v := ?_) rfl (by kernel_rfl) (by kernel_rfl) (by kernel_rfl) (fun _ _ _ h => h) (Or.inl ⟨by rfl, ?_⟩) (by assumption) ?_
                      rotate_left
                      · (intro w hSw; go_simp; try with_reducible rfl)
                      simp only [List.getElem_toArray, List.getElem_cons_succ, List.getElem_cons_zero, Act.put, List.setIfInBounds_toArray, List.set_cons_zero, List.set_cons_succ]
                      refine wpAnyH_norm (l2 := #[true, true, true, true, true, true, true, true, true, true, true, true, true, true, true, true, true, false]) (f2 := 1) (by kernel_rfl) (by kernel_rfl) ?_
                      refine wpAnyH_take (i := 17) (oi := _) (v := ?_) rfl (by kernel_rfl) (by kernel_rfl) (by kernel_rfl) (fun _ _ _ h => h) (Or.inl ⟨by rfl, ?_⟩) (by assumption) ?_
                      rotate_left
                      · (intro w hSw; go_simp; try with_reducible rfl)
                      simp only [List.getElem_toArray, List.getElem_cons_succ, List.getElem_cons_zero, Act.put, List.setIfInBounds_toArray, List.set_cons_zero, List.set_cons_succ]
                      refine wpAnyH_norm (l2 := #[true, true, true, true, true, true, true, true, true, true, true, true, true, true, true, true, true, true]) (f2 := 0) (by kernel_rfl) (by kernel_rfl) ?_
                      refine wpAnyH_done (by kernel_rfl) ?_ _
                      go_wp2_with fail
                      go_meet
                      case rel => exact ⟨gr, br, gs, bs, gt, bt, rfl, rfl, rfl, rr, rs, rt, AR, BT, ⟨by omega, by omega, by omega⟩, ⟨by omega, by omega, by omega, by omega, by omega, by omega, by omega, by omega, by omega⟩, by omega⟩
            · go_simp
              refine hK.out _ _ trivial (fun _ => ?_)
              clear hK K
              simp only [List.getElem_toArray, List.getElem_cons_succ, List.getElem_cons_zero, Act.put, List.setIfInBounds_toArray, List.set_cons_zero, List.set_cons_succ]
              have hb := below1 u32 (Obj.cells #[] 5)
              have hzu38 : (u32.alloc (Obj.cells #[] 5)).heap.size ≤ u32.heap.size + 1 ∧ u32.heap.size + 1 ≤ (u32.alloc (Obj.cells #[] 5)).heap.size := by simp
              have O9 := Own.empty u32 u32.heap.size rfl
              replace AR := AR.later hb
              replace R7 := R7.later hb
              replace RE := RE.later hb
              replace rr := rr.later hb
              replace BT := BT.call hb
              clear hb
              generalize u32.alloc (Obj.cells #[] 5) = u38 at *
              obtain ⟨g9, hqg9⟩ : ∃ g, g = u32.heap.size := ⟨_, rfl⟩
              rw [← hqg9]
              rw [← hqg9] at O9
              replace hqg9 := Nat.le_antisymm_iff.1 hqg9
              refine wpAnyH_norm (l2 := #[true, true, true, true, true, true, true, true, false, true, true, false, true, false, false, false, false, false]) (f2 := 7) (by kernel_rfl) (by kernel_rfl) ?_
              refine wpAnyH_ready (rs := [8]) (by kernel_rfl) (by simp) ?_
              refine AllReadyH.cons rfl (fun K hK => ?_) AllReadyH.nil
              · go_simp
                go_wp2_with (first | (go_at_call 9; refine (newReader2 _ _ _ (E.take (E.length - 1)) _ (row_take RE (by have := HEb.out; omega)) (by have := HEb.out; omega)).mono ?_; rintro e u39 ⟨gs, bs, rfl, rs, hgs, hbs, hlbs, hb⟩; replace AR := AR.later hb; replace O9 := O9.later hb; replace R7 := R7.later hb; replace RE := RE.later hb; replace rr := rr.later hb; replace BT := BT.call hb; have hmgs := rs.lt; have hzu39 := hb.size; clear hb))
                refine hK.out _ _ trivial (fun _ => ?_)
                clear hK K
                simp only [List.getElem_toArray, List.getElem_cons_succ, List.getElem_cons_zero, Act.put, List.setIfInBounds_toArray, List.set_cons_zero, List.set_cons_succ]
                refine wpAnyH_norm (l2 := #[true, true, true, true, true, true, true, true, true, true, true, false, true, false, false, false, false, false]) (f2 := 6) (by kernel_rfl) (by kernel_rfl) ?_
                refine wpAnyH_ready (rs := [11]) (by kernel_rfl) (by simp) ?_
                refine AllReadyH.cons rfl (fun K hK => ?_) AllReadyH.nil
                · obtain ⟨a11, c11, u40, hrun, O11, hG⟩ := append_any O9 RE (by omega) (by have := HEb.out; omega)
                  rw [Nat.zero_add, List.nil_append] at O11
                  rw [Nat.zero_add] at hrun
                  have hS : ∀ j, Blk (some ⟨g9, 0, none⟩) j → j = g9 := fun j hj => blk_some hj
                  have hzu40 := hG.but.size
                  have H11 : Hid (∀ j, Blk a11 j → j = g9 ∨ u39.heap.size ≤ j) := fun j hj => by rcases hG.on j hj with h1 | h1; exact .inl (hS j h1); exact .inr h1
                  obtain ⟨z11, hz11⟩ : ∃ z, z = u39.heap.size := ⟨_, rfl⟩
                  rw [← hz11] at H11
                  replace hz11 := Nat.le_antisymm_iff.1 hz11
                  replace RE := RE.but hG.but (fun j hj _ h2 => by have := blk_some hj; have := hS j h2; omega)
                  replace AR := AR.but hG.but (fun h2 => by have := hS _ h2; omega)
                  replace BT := BT.comp hG.but (fun j hj => by have := hS j hj; omega)
                  replace rr := rr.but hG.but (fun h2 => by have := hS _ h2; omega) (fun h2 => by have := hS _ h2; omega)
                  replace rs := rs.but hG.but (fun h2 => by have := hS _ h2; omega) (fun h2 => by have := hS _ h2; omega)
                  replace R7 := R7.but hG.but (fun j hj _ h2 => by have := blk_some hj; have := hS j h2; omega)
                  clear O9 hS hG
                  rw [if_pos (by kernel_rfl)]
                  refine wp_append_known (.tmp 54) (.tmp 55) 22 rfl _ _ rfl rfl _ u40 hrun ?_
                  refine hK.out _ _ trivial (fun _ => ?_)
                  clear hK K
                  simp only [List.getElem_toArray, List.getElem_cons_succ, List.getElem_cons_zero, Act.put, List.setIfInBounds_toArray, List.set_cons_zero, List.set_cons_succ]
                  clear hrun
                  refine wpAnyH_norm (l2 := #[true, true, true, true, true, true, true, true, true, true, true, true, true, false, false, false, false, false]) (f2 := 5) (by kernel_rfl) (by kernel_rfl) ?_
                  refine wpAnyH_ready (rs := [13]) (by kernel_rfl) (by simp) ?_
                  refine AllReadyH.cons rfl (fun K hK => ?_) AllReadyH.nil
                  · obtain ⟨a13, c13, u41, hrun, O13, hG⟩ := append_any O11 R7 (by omega) (by have := HEb.out; omega)
                    have hzu41 := hG.but.size
                    replace RE := RE.but hG.but (fun j hj _ h2 => by have := blk_some hj; have := H11.out j h2; omega)
                    replace AR := AR.but hG.but (fun h2 => by have := H11.out _ h2; omega)
                    replace BT := BT.comp hG.but (fun j hj => by have := H11.out j hj; omega)
                    replace rr := rr.but hG.but (fun h2 => by have := H11.out _ h2; omega) (fun h2 => by have := H11.out _ h2; omega)
                    replace rs := rs.but hG.but (fun h2 => by have := H11.out _ h2; omega) (fun h2 => by have := H11.out _ h2; omega)
                    clear O11 R7 hG H11
                    rw [if_pos (by kernel_rfl)]
                    refine wp_append_known (.tmp 56) (.tmp 57) 22 rfl _ _ rfl rfl _ u41 hrun ?_
                    refine hK.out _ _ trivial (fun _ => ?_)
                    clear hK K
                    simp only [List.getElem_toArray, List.getElem_cons_succ, List.getElem_cons_zero, Act.put, List.setIfInBounds_toArray, List.set_cons_zero, List.set_cons_succ]
                    clear hrun
                    refine wpAnyH_norm (l2 := #[true, true, true, true, true, true, true, true, true, true, true, true, true, true, false, false, false, false]) (f2 := 4) (by kernel_rfl) (by kernel_rfl) ?_
                    refine wpAnyH_ready (rs := [14]) (by kernel_rfl) (by simp) ?_
                    refine AllReadyH.cons rfl (fun K hK => ?_) AllReadyH.nil
                    · go_simp
                      go_wp2_with (first | (go_at_call 9; refine (newReader2 _ _ _ (E ++ [7]) _ O13.read (by have := HEb.out; omega)).mono ?_; rintro e u42 ⟨gt, bt, rfl, rt, hgt, hbt, hlbt, hb⟩; replace AR := AR.later hb; replace O13 := O13.later hb; replace RE := RE.later hb; replace rr := rr.later hb; replace rs := rs.later hb; replace BT := BT.call hb; have hmgt := rt.lt; have hzu42 := hb.size; clear hb))
                      refine hK.out _ _ trivial (fun _ => ?_)
                      clear hK K
                      simp only [List.getElem_toArray, List.getElem_cons_succ, List.getElem_cons_zero, Act.put, List.setIfInBounds_toArray, List.set_cons_zero, List.set_cons_succ]
                      refine wpAnyH_norm (l2 := #[true, true, true, true, true, true, true, true, true, true, true, true, true, true, true, false, false, false]) (f2 := 3) (by kernel_rfl) (by kernel_rfl) ?_
                      refine wpAnyH_take (i := 15) (oi := _) (v := ?_) rfl (by kernel_rfl) (by kernel_rfl) (by kernel_rfl) (fun _ _ _ h => h) (Or.inl ⟨by rfl, ?_⟩) (by assumption) ?_
                      rotate_left
                      · (intro w hSw; go_simp; try with_reducible rfl)
                      simp only [List.getElem_toArray, List.getElem_cons_succ, List.getElem_cons_zero, Act.put, List.setIfInBounds_toArray, List.set_cons_zero, List.set_cons_succ]
                      refine wpAnyH_norm (l2 := #[true, true, true, true, true, true, true, true, true, true, true, true, true, true, true, true, false, false]) (f2 := 2) (by kernel_rfl) (by kernel_rfl) ?_
                      refine wpAnyH_take (i := 16) (oi := _) (v := ?_) rfl (by kernel_rfl) (by kernel_rfl) (by kernel_rfl) (fun _ _ _ h => h) (Or.inl ⟨by rfl, ?_⟩) (by assumption) ?_
                      rotate_left
                      · (intro w hSw; go_simp; try with_reducible rfl)
                      simp only [List.getElem_toArray, List.getElem_cons_succ, List.getElem_cons_zero, Act.put, List.setIfInBounds_toArray, List.set_cons_zero, List.set_cons_succ]
                      refine wpAnyH_norm (l2 := #[true, true, true, true, true, true, true, true, true, true, true, true, true, true, true, true, true, false]) (f2 := 1) (by kernel_rfl) (by kernel_rfl) ?_
                      refine wpAnyH_take (i := 17) (oi := _) (v := ?_) rfl (by kernel_rfl) (by kernel_rfl) (by kernel_rfl) (fun _ _ _ h => h) (Or.inl ⟨by rfl, ?_⟩) (by assumption) ?_
                      rotate_left
                      · (intro w hSw; go_simp; try with_reducible rfl)
                      simp only [List.getElem_toArray, List.getElem_cons_succ, List.getElem_cons_zero, Act.put, List.setIfInBounds_toArray, List.set_cons_zero, List.set_cons_succ]
                      refine wpAnyH_norm (l2 := #[true, true, true, true, true, true, true, true, true, true, true, true, true, true, true, true, true, true]) (f2 := 0) (by kernel_rfl) (by kernel_rfl) ?_
                      refine wpAnyH_done (by kernel_rfl) ?_ _
                      go_wp2_with fail
                      go_meet
                      case rel => exact ⟨gr, br, gs, bs, gt, bt, rfl, rfl, rfl, rr, rs, rt, AR, BT, ⟨by omega, by omega, by omega⟩, ⟨by omega, by omega, by omega, by omega, by omega, by omega, by omega, by omega, by omega⟩, by omega⟩
        · go_simp
          refine hK.out _ _ trivial (fun _ => ?_)
          clear hK K
          simp only [List.getElem_toArray, List.getElem_cons_succ, List.getElem_cons_zero, Act.put, List.setIfInBounds_toArray, List.set_cons_zero, List.set_cons_succ]
          have hb := below1 u0 (Obj.cells #[] 5)
          have hzu43 : (u0.alloc (Obj.cells #[] 5)).heap.size ≤ u0.heap.size + 1 ∧ u0.heap.size + 1 ≤ (u0.alloc (Obj.cells #[] 5)).heap.size := by simp
          have O9 := Own.empty u0 u0.heap.size rfl
          replace AR := AR.later hb
          replace RE := RE.later hb
          replace BT := BT.call hb
          clear hb
          generalize u0.alloc (Obj.cells #[] 5) = u43 at *
          obtain ⟨g9, hqg9⟩ : ∃ g, g = u0.heap.size := ⟨_, rfl⟩
          rw [← hqg9]
          rw [← hqg9] at O9
          replace hqg9 := Nat.le_antisymm_iff.1 hqg9
          refine wpAnyH_norm (l2 := #[true, false, true, true, true, true, true, true, false, true, true, false, false, false, false, false, false, false]) (f2 := 9) (by kernel_rfl) (by kernel_rfl) ?_
          refine wpAnyH_ready (rs := [1, 12]) (by kernel_rfl) (by simp) ?_
          refine AllReadyH.cons rfl (fun K hK => ?_) (AllReadyH.cons rfl (fun K hK => ?_) AllReadyH.nil)
          · go_simp
            go_wp2_with (first | (go_at_call 9; refine (newReader2 _ _ _ E _ RE (by have := HEb.out; omega)).mono ?_; rintro e u44 ⟨gr, br, rfl, rr, hgr, hbr, hlbr, hb⟩; replace AR := AR.later hb; replace O9 := O9.later hb; replace RE := RE.later hb; replace BT := BT.call hb; have hmgr := rr.lt; have hzu44 := hb.size; clear hb))
            refine hK.out _ _ trivial (fun _ => ?_)
            clear hK K
            simp only [List.getElem_toArray, List.getElem_cons_succ, List.getElem_cons_zero, Act.put, List.setIfInBounds_toArray, List.set_cons_zero, List.set_cons_succ]
            refine wpAnyH_norm (l2 := #[true, true, true, true, true, true, true, true, false, true, true, false, false, false, false, false, false, false]) (f2 := 8) (by kernel_rfl) (by kernel_rfl) ?_
            refine wpAnyH_ready (rs := [8, 12]) (by kernel_rfl) (by simp) ?_
            refine AllReadyH.cons rfl (fun K hK => ?_) (AllReadyH.cons rfl (fun K hK => ?_) AllReadyH.nil)
            · go_simp
              go_wp2_with (first | (go_at_call 9; refine (newReader2 _ _ _ (E.take (E.length - 1)) _ (row_take RE (by have := HEb.out; omega)) (by have := HEb.out; omega)).mono ?_; rintro e u45 ⟨gs, bs, rfl, rs, hgs, hbs, hlbs, hb⟩; replace AR := AR.later hb; replace O9 := O9.later hb; replace RE := RE.later hb; replace rr := rr.later hb; replace BT := BT.call hb; have hmgs := rs.lt; have hzu45 := hb.size; clear hb))
              refine hK.out _ _ trivial (fun _ => ?_)
              clear hK K
              simp only [List.getElem_toArray, List.getElem_cons_succ, List.getElem_cons_zero, Act.put, List.setIfInBounds_toArray, List.set_cons_zero, List.set_cons_succ]
              refine wpAnyH_norm (l2 := #[true, true, true, true, true, true, true, true, true, true, true, false, false, false, false, false, false, false]) (f2 := 7) (by kernel_rfl) (by kernel_rfl) ?_
              refine wpAnyH_ready (rs := [11, 12]) (by kernel_rfl) (by simp) ?_
              refine AllReadyH.cons rfl (fun K hK => ?_) (AllReadyH.cons rfl (fun K hK => ?_) AllReadyH.nil)
              · obtain ⟨a11, c11, u46, hrun, O11, hG⟩ := append_any O9 RE (by omega) (by have := HEb.out; omega)
                rw [Nat.zero_add, List.nil_append] at O11
                rw [Nat.zero_add] at hrun
                have hS : ∀ j, Blk (some ⟨g9, 0, none⟩) j → j = g9 := fun j hj => blk_some hj
                have hzu46 := hG.but.size
                have H11 : Hid (∀ j, Blk a11 j → j = g9 ∨ u45.heap.size ≤ j) := fun j hj => by rcases hG.on j hj with h1 | h1; exact .inl (hS j h1); exact .inr h1
                obtain ⟨z11, hz11⟩ : ∃ z, z = u45.heap.size := ⟨_, rfl⟩
                rw [← hz11] at H11
                replace hz11 := Nat.le_antisymm_iff.1 hz11
                replace RE := RE.but hG.but (fun j hj _ h2 => by have := blk_some hj; have := hS j h2; omega)
                replace AR := AR.but hG.but (fun h2 => by have := hS _ h2; omega)
                replace BT := BT.comp hG.but (fun j hj => by have := hS j hj; omega)
                replace rr := rr.but hG.but (fun h2 => by have := hS _ h2; omega) (fun h2 => by have := hS _ h2; omega)
                replace rs := rs.but hG.but (fun h2 => by have := hS _ h2; omega) (fun h2 => by have := hS _ h2; omega)
                clear O9 hS hG
                rw [if_pos (by kernel_rfl)]
                refine wp_append_known (.tmp 54) (.tmp 55) 22 rfl _ _ rfl rfl _ u46 hrun ?_
                refine hK.out _ _ trivial (fun _ => ?_)
                clear hK K
                simp only [List.getElem_toArray, List.getElem_cons_succ, List.getElem_cons_zero, Act.put, List.setIfInBounds_toArray, List.set_cons_zero, List.set_cons_succ]
                clear hrun
                refine wpAnyH_norm (l2 := #[true, true, true, true, true, true, true, true, true, true, true, true, false, false, false, false, false, false]) (f2 := 6) (by kernel_rfl) (by kernel_rfl) ?_
                refine wpAnyH_ready (rs := [12]) (by kernel_rfl) (by simp) ?_
                refine AllReadyH.cons rfl (fun K hK => ?_) AllReadyH.nil
                · go_simp
                  refine hK.out _ _ trivial (fun _ => ?_)
                  clear hK K
                  simp only [List.getElem_toArray, List.getElem_cons_succ, List.getElem_cons_zero, Act.put, List.setIfInBounds_toArray, List.set_cons_zero, List.set_cons_succ]
                  have hb := below1 u46 (Obj.cells #[.int .u8 7] 5)
                  have hzu47 : (u46.alloc (Obj.cells #[.int .u8 7] 5)).heap.size ≤ u46.heap.size + 1 ∧ u46.heap.size + 1 ≤ (u46.alloc (Obj.cells #[.int .u8 7] 5)).heap.size := by simp
                  have R7 := Row.one u46 7 (by omega)
                  simp only [Int.cast_ofNat_Int] at R7
                  replace AR := AR.later hb
                  replace O11 := O11.later hb
                  replace RE := RE.later hb
                  replace rr := rr.later hb
                  replace rs := rs.later hb
                  replace BT := BT.call hb
                  clear hb
                  generalize u46.alloc (Obj.cells #[.int .u8 7] 5) = u47 at *
                  obtain ⟨g7, hqg7⟩ : ∃ g, g = u46.heap.size := ⟨_, rfl⟩
                  rw [← hqg7]
                  rw [← hqg7] at R7
                  replace hqg7 := Nat.le_antisymm_iff.1 hqg7
                  refine wpAnyH_norm (l2 := #[true, true, true, true, true, true, true, true, true, true, true, true, true, false, false, false, false, false]) (f2 := 5) (by kernel_rfl) (by kernel_rfl) ?_
                  refine wpAnyH_ready (rs := [13]) (by kernel_rfl) (by simp) ?_
                  refine AllReadyH.cons rfl (fun K hK => ?_) AllReadyH.nil
                  · obtain ⟨a13, c13, u48, hrun, O13, hG⟩ := append_any O11 R7 (by omega) (by have := HEb.out; omega)
                    have hzu48 := hG.but.size
                    replace RE := RE.but hG.but (fun j hj _ h2 => by have := blk_some hj; have := H11.out j h2; omega)
                    replace AR := AR.but hG.but (fun h2 => by have := H11.out _ h2; omega)
                    replace BT := BT.comp hG.but (fun j hj => by have := H11.out j hj; omega)
                    replace rr := rr.but hG.but (fun h2 => by have := H11.out _ h2; omega) (fun h2 => by have := H11.out _ h2; omega)
                    replace rs := rs.but hG.but (fun h2 => by have := H11.out _ h2; omega) (fun h2 => by have := H11.out _ h2; omega)
                    clear O11 R7 hG H11
                    rw [if_pos (by kernel_rfl)]
                    refine wp_append_known (.tmp 56) (.tmp 57) 22 rfl _ _ rfl rfl _ u48 hrun ?_
                    refine hK.out _ _ trivial (fun _ => ?_)
                    clear hK K
                    simp only [List.getElem_toArray, List.getElem_cons_succ, List.getElem_cons_zero, Act.put, List.setIfInBounds_toArray, List.set_cons_zero, List.set_cons_succ]
                    clear hrun
                    refine wpAnyH_norm (l2 := #[true, true, true, true, true, true, true, true, true, true, true, true, true, true, false, false, false, false]) (f2 := 4) (by kernel_rfl) (by kernel_rfl) ?_
                    refine wpAnyH_ready (rs := [14]) (by kernel_rfl) (by simp) ?_
                    refine AllReadyH.cons rfl (fun K hK => ?_) AllReadyH.nil
                    · go_simp
                      go_wp2_with (first | (go_at_call 9; refine (newReader2 _ _ _ (E ++ [7]) _ O13.read (by have := HEb.out; omega)).mono ?_; rintro e u49 ⟨gt, bt, rfl, rt, hgt, hbt, hlbt, hb⟩; replace AR := AR.later hb; replace O13 := O13.later hb; replace RE := RE.later hb; replace rr := rr.later hb; replace rs := rs.later hb; replace BT := BT.call hb; have hmgt := rt.lt; have hzu49 := hb.size; clear hb))
                      refine hK.out _ _ trivial (fun _ => ?_)
                      clear hK K
                      simp only [List.getElem_toArray, List.getElem_cons_succ, List.getElem_cons_zero, Act.put, List.setIfInBounds_toArray, List.set_cons_zero, List.set_cons_succ]
                      refine wpAnyH_norm (l2 := #[true, true, true, true, true, true, true, true, true, true, true, true, true, true, true, false, false, false]) (f2 := 3) (by kernel_rfl) (by kernel_rfl) ?_
                      refine wpAnyH_take (i := 15) (oi := _) (v := ?_) rfl (by kernel_rfl) (by kernel_rfl) (by kernel_rfl) (fun _ _ _ h => h) (Or.inl ⟨by rfl, ?_⟩) (by assumption) ?_
                      rotate_left
                      · (intro w hSw; go_simp; try with_reducible rfl)
                      simp only [List.getElem_toArray, List.getElem_cons_succ, List.getElem_cons_zero, Act.put, List.setIfInBounds_toArray, List.set_cons_zero, List.set_cons_succ]
                      refine wpAnyH_norm (l2 := #[true, true, true, true, true, true, true, true, true, true, true, true, true, true, true, true, false, false]) (f2 := 2) (by kernel_rfl) (by kernel_rfl) ?_
                      refine wpAnyH_take (i := 16) (oi := _) (v := ?_) rfl (by kernel_rfl) (by kernel_rfl) (by kernel_rfl) (fun _ _ _ h => h) (Or.inl ⟨by rfl, ?_⟩) (by assumption) ?_
                      rotate_left
                      · (intro w hSw; go_simp; try with_reducible rfl)
                      simp only [List.getElem_toArray, List.getElem_cons_succ, List.getElem_cons_zero, Act.put, List.setIfInBounds_toArray, List.set_cons_zero, List.set_cons_succ]
                      refine wpAnyH_norm (l2 := #[true, true, true, true, true, true, true, true, true, true, true, true, true, true, true, true, true, false]) (f2 := 1) (by kernel_rfl) (by kernel_rfl) ?_
                      refine wpAnyH_take (i := 17) (oi := _) (v := ?_) rfl (by kernel_rfl) (by kernel_rfl) (by kernel_rfl) (fun _ _ _ h => h) (Or.inl ⟨by rfl, ?_⟩) (by assumption) ?_
                      rotate_left
                      · (intro w hSw; go_simp; try with_reducible rfl)
                      simp only [List.getElem_toArray, List.getElem_cons_succ, List.getElem_cons_zero, Act.put, List.setIfInBounds_toArray, List.set_cons_zero, List.set_cons_succ]
                      refine wpAnyH_norm (l2 := #[true, true, true, true, true, true, true, true, true, true, true, true, true, true, true, true, true, true]) (f2 := 0) (by kernel_rfl) (by kernel_rfl) ?_
                      refine wpAnyH_done (by kernel_rfl) ?_ _
                      go_wp2_with fail
                      go_meet
                      case rel => exact ⟨gr, br, gs, bs, gt, bt, rfl, rfl, rfl, rr, rs, rt, AR, BT, ⟨by omega, by omega, by omega⟩, ⟨by omega, by omega, by omega, by omega, by omega, by omega, by omega, by omega, by omega⟩, by omega⟩
              · go_simp
                refine hK.out _ _ trivial (fun _ => ?_)
                clear hK K
                simp only [List.getElem_toArray, List.getElem_cons_succ, List.getElem_cons_zero, Act.put, List.setIfInBounds_toArray, List.set_cons_zero, List.set_cons_succ]
                have hb := below1 u45 (Obj.cells #[.int .u8 7] 5)
                have hzu50 : (u45.alloc (Obj.cells #[.int .u8 7] 5)).heap.size ≤ u45.heap.size + 1 ∧ u45.heap.size + 1 ≤ (u45.alloc (Obj.cells #[.int .u8 7] 5)).heap.size := by simp
                have R7 := Row.one u45 7 (by omega)
                simp only [Int.cast_ofNat_Int] at R7
                replace AR := AR.later hb
                replace O9 := O9.later hb
                replace RE := RE.later hb
                replace rr := rr.later hb
                replace rs := rs.later hb
                replace BT := BT.call hb
                clear hb
                generalize u45.alloc (Obj.cells #[.int .u8 7] 5) = u50 at *
                obtain ⟨g7, hqg7⟩ : ∃ g, g = u45.heap.size := ⟨_, rfl⟩
                rw [← hqg7]
                rw [← hqg7] at R7
                replace hqg7 := Nat.le_antisymm_iff.1 hqg7
                refine wpAnyH_norm (l2 := #[true, true, true, true, true, true, true, true, true, true, true, false, true, false, false, false, false, false]) (f2 := 6) (by kernel_rfl) (by kernel_rfl) ?_
                refine wpAnyH_ready (rs := [11]) (by kernel_rfl) (by simp) ?_
                refine AllReadyH.cons rfl (fun K hK => ?_) AllReadyH.nil
                · obtain ⟨a11, c11, u51, hrun, O11, hG⟩ := append_any O9 RE (by omega) (by have := HEb.out; omega)
                  rw [Nat.zero_add, List.nil_append] at O11
                  rw [Nat.zero_add] at hrun
                  have hS : ∀ j, Blk (some ⟨g9, 0, none⟩) j → j = g9 := fun j hj => blk_some hj
                  have hzu51 := hG.but.size
                  have H11 : Hid (∀ j, Blk a11 j → j = g9 ∨ u50.heap.size ≤ j) := fun j hj => by rcases hG.on j hj with h1 | h1; exact .inl (hS j h1); exact .inr h1
                  obtain ⟨z11, hz11⟩ : ∃ z, z = u50.heap.size := ⟨_, rfl⟩
                  rw [← hz11] at H11
                  replace hz11 := Nat.le_antisymm_iff.1 hz11
                  replace RE := RE.but hG.but (fun j hj _ h2 => by have := blk_some hj; have := hS j h2; omega)
                  replace AR := AR.but hG.but (fun h2 => by have := hS _ h2; omega)
                  replace BT := BT.comp hG.but (fun j hj => by have := hS j hj; omega)
                  replace rr := rr.but hG.but (fun h2 => by have := hS _ h2; omega) (fun h2 => by have := hS _ h2; omega)
                  replace rs := rs.but hG.but (fun h2 => by have := hS _ h2; omega) (fun h2 => by have := hS _ h2; omega)
                  replace R7 := R7.but hG.but (fun j hj _ h2 => by have := blk_some hj; have := hS j h2; omega)
                  clear O9 hS hG
                  rw [if_pos (by kernel_rfl)]
                  refine wp_append_known (.tmp 54) (.tmp 55) 22 rfl _ _ rfl rfl _ u51 hrun ?_
                  refine hK.out _ _ trivial (fun _ => ?_)
                  clear hK K
                  simp only [List.getElem_toArray, List.getElem_cons_succ, List.getElem_cons_zero, Act.put, List.setIfInBounds_toArray, List.set_cons_zero, List.set_cons_succ]
                  clear hrun
                  refine wpAnyH_norm (l2 := #[true, true, true, true, true, true, true, true, true, true, true, true, true, false, false, false, false, false]) (f2 := 5) (by kernel_rfl) (by kernel_rfl) ?_
                  refine wpAnyH_ready (rs := [13]) (by kernel_rfl) (by simp) ?_
                  refine AllReadyH.cons rfl (fun K hK => ?_) AllReadyH.nil
                  · obtain ⟨a13, c13, u52, hrun, O13, hG⟩ := append_any O11 R7 (by omega) (by have := HEb.out; omega)
                    have hzu52 := hG.but.size
                    replace RE := RE.but hG.but (fun j hj _ h2 => by have := blk_some hj; have := H11.out j h2; omega)
                    replace AR := AR.but hG.but (fun h2 => by have := H11.out _ h2; omega)
                    replace BT := BT.comp hG.but (fun j hj => by have := H11.out j hj; omega)
                    replace rr := rr.but hG.but (fun h2 => by have := H11.out _ h2; omega) (fun h2 => by have := H11.out _ h2; omega)
                    replace rs := rs.but hG.but (fun h2 => by have := H11.out _ h2; omega) (fun h2 => by have := H11.out _ h2; omega)
                    clear O11 R7 hG H11
                    rw [if_pos (by kernel_rfl)]
                    refine wp_append_known (.tmp 56) (.tmp 57) 22 rfl _ _ rfl rfl _ u52 hrun ?_
                    refine hK.out _ _ trivial (fun _ => ?_)
                    clear hK K
                    simp only [List.getElem_toArray, List.getElem_cons_succ, List.getElem_cons_zero, Act.put, List.setIfInBounds_toArray, List.set_cons_zero, List.set_cons_succ]
                    clear hrun
                    refine wpAnyH_norm (l2 := #[true, true, true, true, true, true, true, true, true, true, true, true, true, true, false, false, false, false]) (f2 := 4) (by kernel_rfl) (by kernel_rfl) ?_
                    refine wpAnyH_ready (rs := [14]) (by kernel_rfl) (by simp) ?_
                    refine AllReadyH.cons rfl (fun K hK => ?_) AllReadyH.nil
                    · go_simp
                      go_wp2_with (first | (go_at_call 9; refine (newReader2 _ _ _ (E ++ [7]) _ O13.read (by have := HEb.out; omega)).mono ?_; rintro e u53 ⟨gt, bt, rfl, rt, hgt, hbt, hlbt, hb⟩; replace AR := AR.later hb; replace O13 := O13.later hb; replace RE := RE.later hb; replace rr := rr.later hb; replace rs := rs.later hb; replace BT := BT.call hb; have hmgt := rt.lt; have hzu53 := hb.size; clear hb))
                      refine hK.out _ _ trivial (fun _ => ?_)
                      clear hK K
                      simp only [List.getElem_toArray, List.getElem_cons_succ, List.getElem_cons_zero, Act.put, List.setIfInBounds_toArray, List.set_cons_zero, List.set_cons_succ]
                      refine wpAnyH_norm (l2 := #[true, true, true, true, true, true, true, true, true, true, true, true, true, true, true, false, false, false]) (f2 := 3) (by kernel_rfl) (by kernel_rfl) ?_
                      refine wpAnyH_take (i := 15) (oi := _) (v := ?_) rfl (by kernel_rfl) (by kernel_rfl) (by kernel_rfl) (fun _ _ _ h => h) (Or.inl ⟨by rfl, ?_⟩) (by assumption) ?_
                      rotate_left
                      · (intro w hSw; go_simp; try with_reducible rfl)
                      simp only [List.getElem_toArray, List.getElem_cons_succ, List.getElem_cons_zero, Act.put, List.setIfInBounds_toArray, List.set_cons_zero, List.set_cons_succ]
                      refine wpAnyH_norm (l2 := #[true, true, true, true, true, true, true, true, true, true, true, true, true, true, true, true, false, false]) (f2 := 2) (by kernel_rfl) (by kernel_rfl) ?_
                      refine wpAnyH_take (i := 16) (oi := _) (v := ?_) rfl (by kernel_rfl) (by kernel_rfl) (by kernel_rfl) (fun _ _ _ h => h) (Or.inl ⟨by rfl, ?_⟩) (by assumption) ?_
                      rotate_left
                      · (intro w hSw; go_simp; try with_reducible rfl)
                      simp only [List.getElem_toArray, List.getElem_cons_succ, List.getElem_cons_zero, Act.put, List.setIfInBounds_toArray, List.set_cons_zero, List.set_cons_succ]
                      refine wpAnyH_norm (l2 := #[true, true, true, true, true, true, true, true, true, true, true, true, true, true, true, true, true, false]) (f2 := 1) (by kernel_rfl) (by kernel_rfl) ?_
                      refine wpAnyH_take (i := 17) (oi := _) (v := ?_) rfl (by kernel_rfl) (by kernel_rfl) (by kernel_rfl) (fun _ _ _ h => h) (Or.inl ⟨by rfl, ?_⟩) (by assumption) ?_
                      rotate_left
                      · (intro w hSw; go_simp; try with_reducible rfl)
                      simp only [List.getElem_toArray, List.getElem_cons_succ, List.getElem_cons_zero, Act.put, List.setIfInBounds_toArray, List.set_cons_zero, List.set_cons_succ]
                      refine wpAnyH_norm (l2 := #[true, true, true, true, true, true, true, true, true, true, true, true, true, true, true, true, true, true]) (f2 := 0) (by kernel_rfl) (by kernel_rfl) ?_
                      refine wpAnyH_done (by kernel_rfl) ?_ _
                      go_wp2_with fail
                      go_meet
                      case rel => exact ⟨gr, br, gs, bs, gt, bt, rfl, rfl, rfl, rr, rs, rt, AR, BT, ⟨by omega, by omega, by omega⟩, ⟨by omega, by omega, by omega, by omega, by omega, by omega, by omega, by omega, by omega⟩, by omega⟩
            · go_simp
              refine hK.out _ _ trivial (fun _ => ?_)
              clear hK K
              simp only [List.getElem_toArray, List.getElem_cons_succ, List.getElem_cons_zero, Act.put, List.setIfInBounds_toArray, List.set_cons_zero, List.set_cons_succ]
              have hb := below1 u44 (Obj.cells #[.int .u8 7] 5)
              have hzu54 : (u44.alloc (Obj.cells #[.int .u8 7] 5)).heap.size ≤ u44.heap.size + 1 ∧ u44.heap.size + 1 ≤ (u44.alloc (Obj.cells #[.int .u8 7] 5)).heap.size := by simp
              have R7 := Row.one u44 7 (by omega)
              simp only [Int.cast_ofNat_Int] at R7
              replace AR := AR.later hb
              replace O9 := O9.later hb
              replace RE := RE.later hb
              replace rr := rr.later hb
              replace BT := BT.call hb
              clear hb
              generalize u44.alloc (Obj.cells #[.int .u8 7] 5) = u54 at *
              obtain ⟨g7, hqg7⟩ : ∃ g, g = u44.heap.size := ⟨_, rfl⟩
              rw [← hqg7]
              rw [← hqg7] at R7
              replace hqg7 := Nat.le_antisymm_iff.1 hqg7
              refine wpAnyH_norm (l2 := #[true, true, true, true, true, true, true, true, false, true, true, false, true, false, false, false, false, false]) (f2 := 7) (by kernel_rfl) (by kernel_rfl) ?_
              refine wpAnyH_ready (rs := [8]) (by kernel_rfl) (by simp) ?_
              refine AllReadyH.cons rfl (fun K hK => ?_) AllReadyH.nil
              · go_simp
                go_wp2_with (first | (go_at_call 9; refine (newReader2 _ _ _ (E.take (E.length - 1)) _ (row_take RE (by have := HEb.out; omega)) (by have := HEb.out; omega)).mono ?_; rintro e u55 ⟨gs, bs, rfl, rs, hgs, hbs, hlbs, hb⟩; replace AR := AR.later hb; replace O9 := O9.later hb; replace R7 := R7.later hb; replace RE := RE.later hb; replace rr := rr.later hb; replace BT := BT.call hb; have hmgs := rs.lt; have hzu55 := hb.size; clear hb))
                refine hK.out _ _ trivial (fun _ => ?_)
                clear hK K
                simp only [List.getElem_toArray, List.getElem_cons_succ, List.getElem_cons_zero, Act.put, List.setIfInBounds_toArray, List.set_cons_zero, List.set_cons_succ]
                refine wpAnyH_norm (l2 := #[true, true, true, true, true, true, true, true, true, true, true, false, true, false, false, false, false, false]) (f2 := 6) (by kernel_rfl) (by kernel_rfl) ?_
                refine wpAnyH_ready (rs := [11]) (by kernel_rfl) (by simp) ?_
                refine AllReadyH.cons rfl (fun K hK => ?_) AllReadyH.nil
                · obtain ⟨a11, c11, u56, hrun, O11, hG⟩ := append_any O9 RE (by omega) (by have := HEb.out; omega)
                  rw [Nat.zero_add, List.nil_append] at O11
                  rw [Nat.zero_add] at hrun
                  have hS : ∀ j, Blk (some ⟨g9, 0, none⟩) j → j = g9 := fun j hj => blk_some hj
                  have hzu56 := hG.but.size
                  have H11 : Hid (∀ j, Blk a11 j → j = g9 ∨ u55.heap.size ≤ j) := fun j hj => by rcases hG.on j hj with h1 | h1; exact .inl (hS j h1); exact .inr h1
                  obtain ⟨z11, hz11⟩ : ∃ z, z = u55.heap.size := ⟨_, rfl⟩
                  rw [← hz11] at H11
                  replace hz11 := Nat.le_antisymm_iff.1 hz11
                  replace RE := RE.but hG.but (fun j hj _ h2 => by have := blk_some hj; have := hS j h2; omega)
                  replace AR := AR.but hG.but (fun h2 => by have := hS _ h2; omega)
                  replace BT := BT.comp hG.but (fun j hj => by have := hS j hj; omega)
                  replace rr := rr.but hG.but (fun h2 => by have := hS _ h2; omega) (fun h2 => by have := hS _ h2; omega)
                  replace rs := rs.but hG.but (fun h2 => by have := hS _ h2; omega) (fun h2 => by have := hS _ h2; omega)
                  replace R7 := R7.but hG.but (fun j hj _ h2 => by have := blk_some hj; have := hS j h2; omega)
                  clear O9 hS hG
                  rw [if_pos (by kernel_rfl)]
                  refine wp_append_known (.tmp 54) (.tmp 55) 22 rfl _ _ rfl rfl _ u56 hrun ?_
                  refine hK.out _ _ trivial (fun _ => ?_)
                  clear hK K
                  simp only [List.getElem_toArray, List.getElem_cons_succ, List.getElem_cons_zero, Act.put, List.setIfInBounds_toArray, List.set_cons_zero, List.set_cons_succ]
                  clear hrun
                  refine wpAnyH_norm (l2 := #[true, true, true, true, true, true, true, true, true, true, true, true, true, false, false, false, false, false]) (f2 := 5) (by kernel_rfl) (by kernel_rfl) ?_
                  refine wpAnyH_ready (rs := [13]) (by kernel_rfl) (by simp) ?_
                  refine AllReadyH.cons rfl (fun K hK => ?_) AllReadyH.nil
                  · obtain ⟨a13, c13, u57, hrun, O13, hG⟩ := append_any O11 R7 (by omega) (by have := HEb.out; omega)
                    have hzu57 := hG.but.size
                    replace RE := RE.but hG.but (fun j hj _ h2 => by have := blk_some hj; have := H11.out j h2; omega)
                    replace AR := AR.but hG.but (fun h2 => by have := H11.out _ h2; omega)
                    replace BT := BT.comp hG.but (fun j hj => by have := H11.out j hj; omega)
                    replace rr := rr.but hG.but (fun h2 => by have := H11.out _ h2; omega) (fun h2 => by have := H11.out _ h2; omega)
                    replace rs := rs.but hG.but (fun h2 => by have := H11.out _ h2; omega) (fun h2 => by have := H11.out _ h2; omega)
                    clear O11 R7 hG H11
                    rw [if_pos (by kernel_rfl)]
                    refine wp_append_known (.tmp 56) (.tmp 57) 22 rfl _ _ rfl rfl _ u57 hrun ?_
                    refine hK.out _ _ trivial (fun _ => ?_)
                    clear hK K
                    simp only [List.getElem_toArray, List.getElem_cons_succ, List.getElem_cons_zero, Act.put, List.setIfInBounds_toArray, List.set_cons_zero, List.set_cons_succ]
                    clear hrun
                    refine wpAnyH_norm (l2 := #[true, true, true, true, true, true, true, true, true, true, true, true, true, true, false, false, false, false]) (f2 := 4) (by kernel_rfl) (by kernel_rfl) ?_
                    refine wpAnyH_ready (rs := [14]) (by kernel_rfl) (by simp) ?_
                    refine AllReadyH.cons rfl (fun K hK => ?_) AllReadyH.nil
                    · go_simp
                      go_wp2_with (first | (go_at_call 9; refine (newReader2 _ _ _ (E ++ [7]) _ O13.read (by have := HEb.out; omega)).mono ?_; rintro e u58 ⟨gt, bt, rfl, rt, hgt, hbt, hlbt, hb⟩; replace AR := AR.later hb; replace O13 := O13.later hb; replace RE := RE.later hb; replace rr := rr.later hb; replace rs := rs.later hb; replace BT := BT.call hb; have hmgt := rt.lt; have hzu58 := hb.size; clear hb))
                      refine hK.out _ _ trivial (fun _ => ?_)
                      clear hK K
                      simp only [List.getElem_toArray, List.getElem_cons_succ, List.getElem_cons_zero, Act.put, List.setIfInBounds_toArray, List.set_cons_zero, List.set_cons_succ]
                      refine wpAnyH_norm (l2 := #[true, true, true, true, true, true, true, true, true, true, true, true, true, true, true, false, false, false]) (f2 := 3) (by kernel_rfl) (by kernel_rfl) ?_
                      refine wpAnyH_take (i := 15) (oi := _) (v := ?_) rfl (by kernel_rfl) (by kernel_rfl) (by kernel_rfl) (fun _ _ _ h => h) (Or.inl ⟨by rfl, ?_⟩) (by assumption) ?_
                      rotate_left
                      · (intro w hSw; go_simp; try with_reducible rfl)
                      simp only [List.getElem_toArray, List.getElem_cons_succ, List.getElem_cons_zero, Act.put, List.setIfInBounds_toArray, List.set_cons_zero, List.set_cons_succ]
                      refine wpAnyH_norm (l2 := #[true, true, true, true, true, true, true, true, true, true, true, true, true, true, true, true, false, false]) (f2 := 2) (by kernel_rfl) (by kernel_rfl) ?_
                      refine wpAnyH_take (i := 16) (oi := _) (v := ?_) rfl (by kernel_rfl) (by kernel_rfl) (by kernel_rfl) (fun _ _ _ h => h) (Or.inl ⟨by rfl, ?_⟩) (by assumption) ?_
                      rotate_left
                      · (intro w hSw; go_simp; try with_reducible rfl)
                      simp only [List.getElem_toArray, List.getElem_cons_succ, List.getElem_cons_zero, Act.put, List.setIfInBounds_toArray, List.set_cons_zero, List.set_cons_succ]
                      refine wpAnyH_norm (l2 := #[true, true, true, true, true, true, true, true, true, true, true, true, true, true, true, true, true, false]) (f2 := 1) (by kernel_rfl) (by kernel_rfl) ?_
                      refine wpAnyH_take (i := 17) (oi := _) (v := ?_) rfl (by kernel_rfl) (by kernel_rfl) (by kernel_rfl) (fun _ _ _ h => h) (Or.inl ⟨by rfl, ?_⟩) (by assumption) ?_
                      rotate_left
                      · (intro w hSw; go_simp; try with_reducible rfl)
                      simp only [List.getElem_toArray, List.getElem_cons_succ, List.getElem_cons_zero, Act.put, List.setIfInBounds_toArray, List.set_cons_zero, List.set_cons_succ]
                      refine wpAnyH_norm (l2 := #[true, true, true, true, true, true, true, true, true, true, true, true, true, true, true, true, true, true]) (f2 := 0) (by kernel_rfl) (by kernel_rfl) ?_
                      refine wpAnyH_done (by kernel_rfl) ?_ _
                      go_wp2_with fail
                      go_meet
                      case rel => exact ⟨gr, br, gs, bs, gt, bt, rfl, rfl, rfl, rr, rs, rt, AR, BT, ⟨by omega, by omega, by omega⟩, ⟨by omega, by omega, by omega, by omega, by omega, by omega, by omega, by omega, by omega⟩, by omega⟩
          · go_simp
            refine hK.out _ _ trivial (fun _ => ?_)
            clear hK K
            simp only [List.getElem_toArray, List.getElem_cons_succ, List.getElem_cons_zero, Act.put, List.setIfInBounds_toArray, List.set_cons_zero, List.set_cons_succ]
            have hb := below1 u43 (Obj.cells #[.int .u8 7] 5)
            have hzu59 : (u43.alloc (Obj.cells #[.int .u8 7] 5)).heap.size ≤ u43.heap.size + 1 ∧ u43.heap.size + 1 ≤ (u43.alloc (Obj.cells #[.int .u8 7] 5)).heap.size := by simp
            have R7 := Row.one u43 7 (by omega)
            simp only [Int.cast_ofNat_Int] at R7
            replace AR := AR.later hb
            replace O9 := O9.later hb
            replace RE := RE.later hb
            replace BT := BT.call hb
            clear hb
            generalize u43.alloc (Obj.cells #[.int .u8 7] 5) = u59 at *
            obtain ⟨g7, hqg7⟩ : ∃ g, g = u43.heap.size := ⟨_, rfl⟩
            rw [← hqg7]
            rw [← hqg7] at R7
            replace hqg7 := Nat.le_antisymm_iff.1 hqg7
            refine wpAnyH_norm (l2 := #[true, false, true, true, true, true, true, true, false, true, true, false, true, false, false, false, false, false]) (f2 := 8) (by kernel_rfl) (by kernel_rfl) ?_
            refine wpAnyH_ready (rs := [1]) (by kernel_rfl) (by simp) ?_
            refine AllReadyH.cons rfl (fun K hK => ?_) AllReadyH.nil
            · go_simp
              go_wp2_with (first | (go_at_call 9; refine (newReader2 _ _ _ E _ RE (by have := HEb.out; omega)).mono ?_; rintro e u60 ⟨gr, br, rfl, rr, hgr, hbr, hlbr, hb⟩; replace AR := AR.later hb; replace O9 := O9.later hb; replace R7 := R7.later hb; replace RE := RE.later hb; replace BT := BT.call hb; have hmgr := rr.lt; have hzu60 := hb.size; clear hb))
              refine hK.out _ _ trivial (fun _ => ?_)
              clear hK K
              simp only [List.getElem_toArray, List.getElem_cons_succ, List.getElem_cons_zero, Act.put, List.setIfInBounds_toArray, List.set_cons_zero, List.set_cons_succ]
              refine wpAnyH_norm (l2 := #[true, true, true, true, true, true, true, true, false, true, true, false, true, false, false, false, false, false]) (f2 := 7) (by kernel_rfl) (by kernel_rfl) ?_
              refine wpAnyH_ready (rs := [8]) (by kernel_rfl) (by simp) ?_
              refine AllReadyH.cons rfl (fun K hK => ?_) AllReadyH.nil
              · go_simp
                go_wp2_with (first | (go_at_call 9; refine (newReader2 _ _ _ (E.take (E.length - 1)) _ (row_take RE (by have := HEb.out; omega)) (by have := HEb.out; omega)).mono ?_; rintro e u61 ⟨gs, bs, rfl, rs, hgs, hbs, hlbs, hb⟩; replace AR := AR.later hb; replace O9 := O9.later hb; replace R7 := R7.later hb; replace RE := RE.later hb; replace rr := rr.later hb; replace BT := BT.call hb; have hmgs := rs.lt; have hzu61 := hb.size; clear hb))
                refine hK.out _ _ trivial (fun _ => ?_)
                clear hK K
                simp only [List.getElem_toArray, List.getElem_cons_succ, List.getElem_cons_zero, Act.put, List.setIfInBounds_toArray, List.set_cons_zero, List.set_cons_succ]
                refine wpAnyH_norm (l2 := #[true, true, true, true, true, true, true, true, true, true, true, false, true, false, false, false, false, false]) (f2 := 6) (by kernel_rfl) (by kernel_rfl) ?_
                refine wpAnyH_ready (rs := [11]) (by kernel_rfl) (by simp) ?_
                refine AllReadyH.cons rfl (fun K hK => ?_) AllReadyH.nil
                · obtain ⟨a11, c11, u62, hrun, O11, hG⟩ := append_any O9 RE (by omega) (by have := HEb.out; omega)
                  rw [Nat.zero_add, List.nil_append] at O11
                  rw [Nat.zero_add] at hrun
                  have hS : ∀ j, Blk (some ⟨g9, 0, none⟩) j → j = g9 := fun j hj => blk_some hj
                  have hzu62 := hG.but.size
                  have H11 : Hid (∀ j, Blk a11 j → j = g9 ∨ u61.heap.size ≤ j) := fun j hj => by rcases hG.on j hj with h1 | h1; exact .inl (hS j h1); exact .inr h1
                  obtain ⟨z11, hz11⟩ : ∃ z, z = u61.heap.size := ⟨_, rfl⟩
                  rw [← hz11] at H11
                  replace hz11 := Nat.le_antisymm_iff.1 hz11
                  replace RE := RE.but hG.but (fun j hj _ h2 => by have := blk_some hj; have := hS j h2; omega)
                  replace AR := AR.but hG.but (fun h2 => by have := hS _ h2; omega)
                  replace BT := BT.comp hG.but (fun j hj => by have := hS j hj; omega)
                  replace rr := rr.but hG.but (fun h2 => by have := hS _ h2; omega) (fun h2 => by have := hS _ h2; omega)
                  replace rs := rs.but hG.but (fun h2 => by have := hS _ h2; omega) (fun h2 => by have := hS _ h2; omega)
                  replace R7 := R7.but hG.but (fun j hj _ h2 => by have := blk_some hj; have := hS j h2; omega)
                  clear O9 hS hG
                  rw [if_pos (by kernel_rfl)]
                  refine wp_append_known (.tmp 54) (.tmp 55) 22 rfl _ _ rfl rfl _ u62 hrun ?_
                  refine hK.out _ _ trivial (fun _ => ?_)
                  clear hK K
                  simp only [List.getElem_toArray, List.getElem_cons_succ, List.getElem_cons_zero, Act.put, List.setIfInBounds_toArray, List.set_cons_zero, List.set_cons_succ]
                  clear hrun
                  refine wpAnyH_norm (l2 := #[true, true, true, true, true, true, true, true, true, true, true, true, true, false, false, false, false, false]) (f2 := 5) (by kernel_rfl) (by kernel_rfl) ?_
                  refine wpAnyH_ready (rs := [13]) (by kernel_rfl) (by simp) ?_
                  refine AllReadyH.cons rfl (fun K hK => ?_) AllReadyH.nil
                  · obtain ⟨a13, c13, u63, hrun, O13, hG⟩ := append_any O11 R7 (by omega) (by have := HEb.out; omega)
                    have hzu63 := hG.but.size
                    replace RE := RE.but hG.but (fun j hj _ h2 => by have := blk_some hj; have := H11.out j h2; omega)
                    replace AR := AR.but hG.but (fun h2 => by have := H11.out _ h2; omega)
                    replace BT := BT.comp hG.but (fun j hj => by have := H11.out j hj; omega)
                    replace rr := rr.but hG.but (fun h2 => by have := H11.out _ h2; omega) (fun h2 => by have := H11.out _ h2; omega)
                    replace rs := rs.but hG.but (fun h2 => by have := H11.out _ h2; omega) (fun h2 => by have := H11.out _ h2; omega)
                    clear O11 R7 hG H11
                    rw [if_pos (by kernel_rfl)]
                    refine wp_append_known (.tmp 56) (.tmp 57) 22 rfl _ _ rfl rfl _ u63 hrun ?_
                    refine hK.out _ _ trivial (fun _ => ?_)
                    clear hK K
                    simp only [List.getElem_toArray, List.getElem_cons_succ, List.getElem_cons_zero, Act.put, List.setIfInBounds_toArray, List.set_cons_zero, List.set_cons_succ]
                    clear hrun
                    refine wpAnyH_norm (l2 := #[true, true, true, true, true, true, true, true, true, true, true, true, true, true, false, false, false, false]) (f2 := 4) (by kernel_rfl) (by kernel_rfl) ?_
                    refine wpAnyH_ready (rs := [14]) (by kernel_rfl) (by simp) ?_
                    refine AllReadyH.cons rfl (fun K hK => ?_) AllReadyH.nil
                    · go_simp
                      go_wp2_with (first | (go_at_call 9; refine (newReader2 _ _ _ (E ++ [7]) _ O13.read (by have := HEb.out; omega)).mono ?_; rintro e u64 ⟨gt, bt, rfl, rt, hgt, hbt, hlbt, hb⟩; replace AR := AR.later hb; replace O13 := O13.later hb; replace RE := RE.later hb; replace rr := rr.later hb; replace rs := rs.later hb; replace BT := BT.call hb; have hmgt := rt.lt; have hzu64 := hb.size; clear hb))
                      refine hK.out _ _ trivial (fun _ => ?_)
                      clear hK K
                      simp only [List.getElem_toArray, List.getElem_cons_succ, List.getElem_cons_zero, Act.put, List.setIfInBounds_toArray, List.set_cons_zero, List.set_cons_succ]
                      refine wpAnyH_norm (l2 := #[true, true, true, true, true, true, true, true, true, true, true, true, true, true, true, false, false, false]) (f2 := 3) (by kernel_rfl) (by kernel_rfl) ?_
                      refine wpAnyH_take (i := 15) (oi := _) (v := ?_) rfl (by kernel_rfl) (by kernel_rfl) (by kernel_rfl) (fun _ _ _ h => h) (Or.inl ⟨by rfl, ?_⟩) (by assumption) ?_
                      rotate_left
                      · (intro w hSw; go_simp; try with_reducible rfl)
                      simp only [List.getElem_toArray, List.getElem_cons_succ, List.getElem_cons_zero, Act.put, List.setIfInBounds_toArray, List.set_cons_zero, List.set_cons_succ]
                      refine wpAnyH_norm (l2 := #[true, true, true, true, true, true, true, true, true, true, true, true, true, true, true, true, false, false]) (f2 := 2) (by kernel_rfl) (by kernel_rfl) ?_
                      refine wpAnyH_take (i := 16) (oi := _) (v := ?_) rfl (by kernel_rfl) (by kernel_rfl) (by kernel_rfl) (fun _ _ _ h => h) (Or.inl ⟨by rfl, ?_⟩) (by assumption) ?_
                      rotate_left
                      · (intro w hSw; go_simp; try with_reducible rfl)
                      simp only [List.getElem_toArray, List.getElem_cons_succ, List.getElem_cons_zero, Act.put, List.setIfInBounds_toArray, List.set_cons_zero, List.set_cons_succ]
                      refine wpAnyH_norm (l2 := #[true, true, true, true, true, true, true, true, true, true, true, true, true, true, true, true, true, false]) (f2 := 1) (by kernel_rfl) (by kernel_rfl) ?_
                      refine wpAnyH_take (i := 17) (oi := _) (v := ?_) rfl (by kernel_rfl) (by kernel_rfl) (by kernel_rfl) (fun _ _ _ h => h) (Or.inl ⟨by rfl, ?_⟩) (by assumption) ?_
                      rotate_left
                      · (intro w hSw; go_simp; try with_reducible rfl)
                      simp only [List.getElem_toArray, List.getElem_cons_succ, List.getElem_cons_zero, Act.put, List.setIfInBounds_toArray, List.set_cons_zero, List.set_cons_succ]
                      refine wpAnyH_norm (l2 := #[true, true, true, true, true, true, true, true, true, true, true, true, true, true, true, true, true, true]) (f2 := 0) (by kernel_rfl) (by kernel_rfl) ?_
                      refine wpAnyH_done (by kernel_rfl) ?_ _
                      go_wp2_with fail
                      go_meet
                      case rel => exact ⟨gr, br, gs, bs, gt, bt, rfl, rfl, rfl, rr, rs, rt, AR, BT, ⟨by omega, by omega, by omega⟩, ⟨by omega, by omega, by omega, by omega, by omega, by omega, by omega, by omega, by omega⟩, by omega⟩
        · go_simp
          refine hK.out _ _ trivial (fun _ => ?_)
          clear hK K
          simp only [List.getElem_toArray, List.getElem_cons_succ, List.getElem_cons_zero, Act.put, List.setIfInBounds_toArray, List.set_cons_zero, List.set_cons_succ]
          have hb := below1 u0 (Obj.cells #[.int .u8 7] 5)
          have hzu65 : (u0.alloc (Obj.cells #[.int .u8 7] 5)).heap.size ≤ u0.heap.size + 1 ∧ u0.heap.size + 1 ≤ (u0.alloc (Obj.cells #[.int .u8 7] 5)).heap.size := by simp
          have R7 := Row.one u0 7 (by omega)
          simp only [Int.cast_ofNat_Int] at R7
          replace AR := AR.later hb
          replace RE := RE.later hb
          replace BT := BT.call hb
          clear hb
          generalize u0.alloc (Obj.cells #[.int .u8 7] 5) = u65 at *
          obtain ⟨g7, hqg7⟩ : ∃ g, g = u0.heap.size := ⟨_, rfl⟩
          rw [← hqg7]
          rw [← hqg7] at R7
          replace hqg7 := Nat.le_antisymm_iff.1 hqg7
          refine wpAnyH_norm (l2 := #[true, false, true, true, true, true, true, true, false, false, true, false, true, false, false, false, false, false]) (f2 := 9) (by kernel_rfl) (by kernel_rfl) ?_
          refine wpAnyH_ready (rs := [1, 9]) (by kernel_rfl) (by simp) ?_
          refine AllReadyH.cons rfl (fun K hK => ?_) (AllReadyH.cons rfl (fun K hK => ?_) AllReadyH.nil)
          · go_simp
            go_wp2_with (first | (go_at_call 9; refine (newReader2 _ _ _ E _ RE (by have := HEb.out; omega)).mono ?_; rintro e u66 ⟨gr, br, rfl, rr, hgr, hbr, hlbr, hb⟩; replace AR := AR.later hb; replace R7 := R7.later hb; replace RE := RE.later hb; replace BT := BT.call hb; have hmgr := rr.lt; have hzu66 := hb.size; clear hb))
            refine hK.out _ _ trivial (fun _ => ?_)
            clear hK K
            simp only [List.getElem_toArray, List.getElem_cons_succ, List.getElem_cons_zero, Act.put, List.setIfInBounds_toArray, List.set_cons_zero, List.set_cons_succ]
            refine wpAnyH_norm (l2 := #[true, true, true, true, true, true, true, true, false, false, true, false, true, false, false, false, false, false]) (f2 := 8) (by kernel_rfl) (by kernel_rfl) ?_
            refine wpAnyH_ready (rs := [8, 9]) (by kernel_rfl) (by simp) ?_
            refine AllReadyH.cons rfl (fun K hK => ?_) (AllReadyH.cons rfl (fun K hK => ?_) AllReadyH.nil)
            · go_simp
              go_wp2_with (first | (go_at_call 9; refine (newReader2 _ _ _ (E.take (E.length - 1)) _ (row_take RE (by have := HEb.out; omega)) (by have := HEb.out; omega)).mono ?_; rintro e u67 ⟨gs, bs, rfl, rs, hgs, hbs, hlbs, hb⟩; replace AR := AR.later hb; replace R7 := R7.later hb; replace RE := RE.later hb; replace rr := rr.later hb; replace BT := BT.call hb; have hmgs := rs.lt; have hzu67 := hb.size; clear hb))
              refine hK.out _ _ trivial (fun _ => ?_)
              clear hK K
              simp only [List.getElem_toArray, List.getElem_cons_succ, List.getElem_cons_zero, Act.put, List.setIfInBounds_toArray, List.set_cons_zero, List.set_cons_succ]
              refine wpAnyH_norm (l2 := #[true, true, true, true, true, true, true, true, true, false, true, false, true, false, false, false, false, false]) (f2 := 7) (by kernel_rfl) (by kernel_rfl) ?_
              refine wpAnyH_ready (rs := [9]) (by kernel_rfl) (by simp) ?_
              refine AllReadyH.cons rfl (fun K hK => ?_) AllReadyH.nil
              · go_simp
                refine hK.out _ _ trivial (fun _ => ?_)
                clear hK K
                simp only [List.getElem_toArray, List.getElem_cons_succ, List.getElem_cons_zero, Act.put, List.setIfInBounds_toArray, List.set_cons_zero, List.set_cons_succ]
                have hb := below1 u67 (Obj.cells #[] 5)
                have hzu68 : (u67.alloc (Obj.cells #[] 5)).heap.size ≤ u67.heap.size + 1 ∧ u67.heap.size + 1 ≤ (u67.alloc (Obj.cells #[] 5)).heap.size := by simp
                have O9 := Own.empty u67 u67.heap.size rfl
                replace AR := AR.later hb
                replace R7 := R7.later hb
                replace RE := RE.later hb
                replace rr := rr.later hb
                replace rs := rs.later hb
                replace BT := BT.call hb
                clear hb
                generalize u67.alloc (Obj.cells #[] 5) = u68 at *
                obtain ⟨g9, hqg9⟩ : ∃ g, g = u67.heap.size := ⟨_, rfl⟩
                rw [← hqg9]
                rw [← hqg9] at O9
                replace hqg9 := Nat.le_antisymm_iff.1 hqg9
                refine wpAnyH_norm (l2 := #[true, true, true, true, true, true, true, true, true, true, true, false, true, false, false, false, false, false]) (f2 := 6) (by kernel_rfl) (by kernel_rfl) ?_
                refine wpAnyH_ready (rs := [11]) (by kernel_rfl) (by simp) ?_
                refine AllReadyH.cons rfl (fun K hK => ?_) AllReadyH.nil
                · obtain ⟨a11, c11, u69, hrun, O11, hG⟩ := append_any O9 RE (by omega) (by have := HEb.out; omega)
                  rw [Nat.zero_add, List.nil_append] at O11
                  rw [Nat.zero_add] at hrun
                  have hS : ∀ j, Blk (some ⟨g9, 0, none⟩) j → j = g9 := fun j hj => blk_some hj
                  have hzu69 := hG.but.size
                  have H11 : Hid (∀ j, Blk a11 j → j = g9 ∨ u68.heap.size ≤ j) := fun j hj => by rcases hG.on j hj with h1 | h1; exact .inl (hS j h1); exact .inr h1
                  obtain ⟨z11, hz11⟩ : ∃ z, z = u68.heap.size := ⟨_, rfl⟩
                  rw [← hz11] at H11
                  replace hz11 := Nat.le_antisymm_iff.1 hz11
                  replace RE := RE.but hG.but (fun j hj _ h2 => by have := blk_some hj; have := hS j h2; omega)
                  replace AR := AR.but hG.but (fun h2 => by have := hS _ h2; omega)
                  replace BT := BT.comp hG.but (fun j hj => by have := hS j hj; omega)
                  replace rr := rr.but hG.but (fun h2 => by have := hS _ h2; omega) (fun h2 => by have := hS _ h2; omega)
                  replace rs := rs.but hG.but (fun h2 => by have := hS _ h2; omega) (fun h2 => by have := hS _ h2; omega)
                  replace R7 := R7.but hG.but (fun j hj _ h2 => by have := blk_some hj; have := hS j h2; omega)
                  clear O9 hS hG
                  rw [if_pos (by kernel_rfl)]
                  refine wp_append_known (.tmp 54) (.tmp 55) 22 rfl _ _ rfl rfl _ u69 hrun ?_
                  refine hK.out _ _ trivial (fun _ => ?_)
                  clear hK K
                  simp only [List.getElem_toArray, List.getElem_cons_succ, List.getElem_cons_zero, Act.put, List.setIfInBounds_toArray, List.set_cons_zero, List.set_cons_succ]
                  clear hrun
                  refine wpAnyH_norm (l2 := #[true, true, true, true, true, true, true, true, true, true, true, true, true, false, false, false, false, false]) (f2 := 5) (by kernel_rfl) (by kernel_rfl) ?_
                  refine wpAnyH_ready (rs := [13]) (by kernel_rfl) (by simp) ?_
                  refine AllReadyH.cons rfl (fun K hK => ?_) AllReadyH.nil
                  · obtain ⟨a13, c13, u70, hrun, O13, hG⟩ := append_any O11 R7 (by omega) (by have := HEb.out; omega)
                    have hzu70 := hG.but.size
                    replace RE := RE.but hG.but (fun j hj _ h2 => by have := blk_some hj; have := H11.out j h2; omega)
                    replace AR := AR.but hG.but (fun h2 => by have := H11.out _ h2; omega)
                    replace BT := BT.comp hG.but (fun j hj => by have := H11.out j hj; omega)
                    replace rr := rr.but hG.but (fun h2 => by have := H11.out _ h2; omega) (fun h2 => by have := H11.out _ h2; omega)
                    replace rs := rs.but hG.but (fun h2 => by have := H11.out _ h2; omega) (fun h2 => by have := H11.out _ h2; omega)
                    clear O11 R7 hG H11
                    rw [if_pos (by kernel_rfl)]
                    refine wp_append_known (.tmp 56) (.tmp 57) 22 rfl _ _ rfl rfl _ u70 hrun ?_
                    refine hK.out _ _ trivial (fun _ => ?_)
                    clear hK K
                    simp only [List.getElem_toArray, List.getElem_cons_succ, List.getElem_cons_zero, Act.put, List.setIfInBounds_toArray, List.set_cons_zero, List.set_cons_succ]
                    clear hrun
                    refine wpAnyH_norm (l2 := #[true, true, true, true, true, true, true, true, true, true, true, true, true, true, false, false, false, false]) (f2 := 4) (by kernel_rfl) (by kernel_rfl) ?_
                    refine wpAnyH_ready (rs := [14]) (by kernel_rfl) (by simp) ?_
                    refine AllReadyH.cons rfl (fun K hK => ?_) AllReadyH.nil
                    · go_simp
                      go_wp2_with (first | (go_at_call 9; refine (newReader2 _ _ _ (E ++ [7]) _ O13.read (by have := HEb.out; omega)).mono ?_; rintro e u71 ⟨gt, bt, rfl, rt, hgt, hbt, hlbt, hb⟩; replace AR := AR.later hb; replace O13 := O13.later hb; replace RE := RE.later hb; replace rr := rr.later hb; replace rs := rs.later hb; replace BT := BT.call hb; have hmgt := rt.lt; have hzu71 := hb.size; clear hb))
                      refine hK.out _ _ trivial (fun _ => ?_)
                      clear hK K
                      simp only [List.getElem_toArray, List.getElem_cons_succ, List.getElem_cons_zero, Act.put, List.setIfInBounds_toArray, List.set_cons_zero, List.set_cons_succ]
                      refine wpAnyH_norm (l2 := #[true, true, true, true, true, true, true, true, true, true, true, true, true, true, true, false, false, false]) (f2 := 3) (by kernel_rfl) (by kernel_rfl) ?_
                      refine wpAnyH_take (i := 15) (oi := _) (v := ?_) rfl (by kernel_rfl) (by kernel_rfl) (by kernel_rfl) (fun _ _ _ h => h) (Or.inl ⟨by rfl, ?_⟩) (by assumption) ?_
                      rotate_left
                      · (intro w hSw; go_simp; try with_reducible rfl)
                      simp only [List.getElem_toArray, List.getElem_cons_succ, List.getElem_cons_zero, Act.put, List.setIfInBounds_toArray, List.set_cons_zero, List.set_cons_succ]
                      refine wpAnyH_norm (l2 := #[true, true, true, true, true, true, true, true, true, true, true, true, true, true, true, true, false, false]) (f2 := 2) (by kernel_rfl) (by kernel_rfl) ?_
                      refine wpAnyH_take (i := 16) (oi := _) (v := ?_) rfl (by kernel_rfl) (by kernel_rfl) (by kernel_rfl) (fun _ _ _ h => h) (Or.inl ⟨by rfl, ?_⟩) (by assumption) ?_
                      rotate_left
                      · (intro w hSw; go_simp; try with_reducible rfl)
                      simp only [List.getElem_toArray, List.getElem_cons_succ, List.getElem_cons_zero, Act.put, List.setIfInBounds_toArray, List.set_cons_zero, List.set_cons_succ]
                      refine wpAnyH_norm (l2 := #[true, true, true, true, true, true, true, true, true, true, true, true, true, true, true, true, true, false]) (f2 := 1) (by kernel_rfl) (by kernel_rfl) ?_
                      refine wpAnyH_take (i := 17) (oi := _) (v := ?_) rfl (by kernel_rfl) (by kernel_rfl) (by kernel_rfl) (fun _ _ _ h => h) (Or.inl ⟨by rfl, ?_⟩) (by assumption) ?_
                      rotate_left
                      · (intro w hSw; go_simp; try with_reducible rfl)
                      simp only [List.getElem_toArray, List.getElem_cons_succ, List.getElem_cons_zero, Act.put, List.setIfInBounds_toArray, List.set_cons_zero, List.set_cons_succ]
                      refine wpAnyH_norm (l2 := #[true, true, true, true, true, true, true, true, true, true, true, true, true, true, true, true, true, true]) (f2 := 0) (by kernel_rfl) (by kernel_rfl) ?_
                      refine wpAnyH_done (by kernel_rfl) ?_ _
                      go_wp2_with fail
                      go_meet
                      case rel => exact ⟨gr, br, gs, bs, gt, bt, rfl, rfl, rfl, rr, rs, rt, AR, BT, ⟨by omega, by omega, by omega⟩, ⟨by omega, by omega, by omega, by omega, by omega, by omega, by omega, by omega, by omega⟩, by omega⟩
            · go_simp
              refine hK.out _ _ trivial (fun _ => ?_)
              clear hK K
              simp only [List.getElem_toArray, List.getElem_cons_succ, List.getElem_cons_zero, Act.put, List.setIfInBounds_toArray, List.set_cons_zero, List.set_cons_succ]
              have hb := below1 u66 (Obj.cells #[] 5)
              have hzu72 : (u66.alloc (Obj.cells #[] 5)).heap.size ≤ u66.heap.size + 1 ∧ u66.heap.size + 1 ≤ (u66.alloc (Obj.cells #[] 5)).heap.size := by simp
              have O9 := Own.empty u66 u66.heap.size rfl
              replace AR := AR.later hb
              replace R7 := R7.later hb
              replace RE := RE.later hb
              replace rr := rr.later hb
              replace BT := BT.call hb
              clear hb
              generalize u66.alloc (Obj.cells #[] 5) = u72 at *
              obtain ⟨g9, hqg9⟩ : ∃ g, g = u66.heap.size := ⟨_, rfl⟩
              rw [← hqg9]
              rw [← hqg9] at O9
              replace hqg9 := Nat.le_antisymm_iff.1 hqg9
              refine wpAnyH_norm (l2 := #[true, true, true, true, true, true, true, true, false, true, true, false, true, false, false, false, false, false]) (f2 := 7) (by kernel_rfl) (by kernel_rfl) ?_
              refine wpAnyH_ready (rs := [8]) (by kernel_rfl) (by simp) ?_
              refine AllReadyH.cons rfl (fun K hK => ?_) AllReadyH.nil
              · go_simp
                go_wp2_with (first | (go_at_call 9; refine (newReader2 _ _ _ (E.take (E.length - 1)) _ (row_take RE (by have := HEb.out; omega)) (by have := HEb.out; omega)).mono ?_; rintro e u73 ⟨gs, bs, rfl, rs, hgs, hbs, hlbs, hb⟩; replace AR := AR.later hb; replace O9 := O9.later hb; replace R7 := R7.later hb; replace RE := RE.later hb; replace rr := rr.later hb; replace BT := BT.call hb; have hmgs := rs.lt; have hzu73 := hb.size; clear hb))
                refine hK.out _ _ trivial (fun _ => ?_)
                clear hK K
                simp only [List.getElem_toArray, List.getElem_cons_succ, List.getElem_cons_zero, Act.put, List.setIfInBounds_toArray, List.set_cons_zero, List.set_cons_succ]
                refine wpAnyH_norm (l2 := #[true, true, true, true, true, true, true, true, true, true, true, false, true, false, false, false, false, false]) (f2 := 6) (by kernel_rfl) (by kernel_rfl) ?_
                refine wpAnyH_ready (rs := [11]) (by kernel_rfl) (by simp) ?_
                refine AllReadyH.cons rfl (fun K hK => ?_) AllReadyH.nil
                · obtain ⟨a11, c11, u74, hrun, O11, hG⟩ := append_any O9 RE (by omega) (by have := HEb.out; omega)
                  rw [Nat.zero_add, List.nil_append] at O11
                  rw [Nat.zero_add] at hrun
                  have hS : ∀ j, Blk (some ⟨g9, 0, none⟩) j → j = g9 := fun j hj => blk_some hj
                  have hzu74 := hG.but.size
                  have H11 : Hid (∀ j, Blk a11 j → j = g9 ∨ u73.heap.size ≤ j) := fun j hj => by rcases hG.on j hj with h1 | h1; exact .inl (hS j h1); exact .inr h1
                  obtain ⟨z11, hz11⟩ : ∃ z, z = u73.heap.size := ⟨_, rfl⟩
                  rw [← hz11] at H11
                  replace hz11 := Nat.le_antisymm_iff.1 hz11
                  replace RE := RE.but hG.but (fun j hj _ h2 => by have := blk_some hj; have := hS j h2; omega)
                  replace AR := AR.but hG.but (fun h2 => by have := hS _ h2; omega)
                  replace BT := BT.comp hG.but (fun j hj => by have := hS j hj; omega)
                  replace rr := rr.but hG.but (fun h2 => by have := hS _ h2; omega) (fun h2 => by have := hS _ h2; omega)
                  replace rs := rs.but hG.but (fun h2 => by have := hS _ h2; omega) (fun h2 => by have := hS _ h2; omega)
                  replace R7 := R7.but hG.but (fun j hj _ h2 => by have := blk_some hj; have := hS j h2; omega)
                  clear O9 hS hG
                  rw [if_pos (by kernel_rfl)]
                  refine wp_append_known (.tmp 54) (.tmp 55) 22 rfl _ _ rfl rfl _ u74 hrun ?_
                  refine hK.out _ _ trivial (fun _ => ?_)
                  clear hK K
                  simp only [List.getElem_toArray, List.getElem_cons_succ, List.getElem_cons_zero, Act.put, List.setIfInBounds_toArray, List.set_cons_zero, List.set_cons_succ]
                  clear hrun
                  refine wpAnyH_norm (l2 := #[true, true, true, true, true, true, true, true, true, true, true, true, true, false, false, false, false, false]) (f2 := 5) (by kernel_rfl) (by kernel_rfl) ?_
                  refine wpAnyH_ready (rs := [13]) (by kernel_rfl) (by simp) ?_
                  refine AllReadyH.cons rfl (fun K hK => ?_) AllReadyH.nil
                  · obtain ⟨a13, c13, u75, hrun, O13, hG⟩ := append_any O11 R7 (by omega) (by have := HEb.out; omega)
                    have hzu75 := hG.but.size
                    replace RE := RE.but hG.but (fun j hj _ h2 => by have := blk_some hj; have := H11.out j h2; omega)
                    replace AR := AR.but hG.but (fun h2 => by have := H11.out _ h2; omega)
                    replace BT := BT.comp hG.but (fun j hj => by have := H11.out j hj; omega)
                    replace rr := rr.but hG.but (fun h2 => by have := H11.out _ h2; omega) (fun h2 => by have := H11.out _ h2; omega)
                    replace rs := rs.but hG.but (fun h2 => by have := H11.out _ h2; omega) (fun h2 => by have := H11.out _ h2; omega)
                    clear O11 R7 hG H11
                    rw [if_pos (by kernel_rfl)]
                    refine wp_append_known (.tmp 56) (.tmp 57) 22 rfl _ _ rfl rfl _ u75 hrun ?_
                    refine hK.out _ _ trivial (fun _ => ?_)
                    clear hK K
                    simp only [List.getElem_toArray, List.getElem_cons_succ, List.getElem_cons_zero, Act.put, List.setIfInBounds_toArray, List.set_cons_zero, List.set_cons_succ]
                    clear hrun
                    refine wpAnyH_norm (l2 := #[true, true, true, true, true, true, true, true, true, true, true, true, true, true, false, false, false, false]) (f2 := 4) (by kernel_rfl) (by kernel_rfl) ?_
                    refine wpAnyH_ready (rs := [14]) (by kernel_rfl) (by simp) ?_
                    refine AllReadyH.cons rfl (fun K hK => ?_) AllReadyH.nil
                    · go_simp
                      go_wp2_with (first | (go_at_call 9; refine (newReader2 _ _ _ (E ++ [7]) _ O13.read (by have := HEb.out; omega)).mono ?_; rintro e u76 ⟨gt, bt, rfl, rt, hgt, hbt, hlbt, hb⟩; replace AR := AR.later hb; replace O13 := O13.later hb; replace RE := RE.later hb; replace rr := rr.later hb; replace rs := rs.later hb; replace BT := BT.call hb; have hmgt := rt.lt; have hzu76 := hb.size; clear hb))
                      refine hK.out _ _ trivial (fun _ => ?_)
                      clear hK K
                      simp only [List.getElem_toArray, List.getElem_cons_succ, List.getElem_cons_zero, Act.put, List.setIfInBounds_toArray, List.set_cons_zero, List.set_cons_succ]
                      refine wpAnyH_norm (l2 := #[true, true, true, true, true, true, true, true, true, true, true, true, true, true, true, false, false, false]) (f2 := 3) (by kernel_rfl) (by kernel_rfl) ?_
                      refine wpAnyH_take (i := 15) (oi := _) (v := ?_) rfl (by kernel_rfl) (by kernel_rfl) (by kernel_rfl) (fun _ _ _ h => h) (Or.inl ⟨by rfl, ?_⟩) (by assumption) ?_
                      rotate_left
                      · (intro w hSw; go_simp; try with_reducible rfl)
                      simp only [List.getElem_toArray, List.getElem_cons_succ, List.getElem_cons_zero, Act.put, List.setIfInBounds_toArray, List.set_cons_zero, List.set_cons_succ]
                      refine wpAnyH_norm (l2 := #[true, true, true, true, true, true, true, true, true, true, true, true, true, true, true, true, false, false]) (f2 := 2) (by kernel_rfl) (by kernel_rfl) ?_
                      refine wpAnyH_take (i := 16) (oi := _) (v := ?_) rfl (by kernel_rfl) (by kernel_rfl) (by kernel_rfl) (fun _ _ _ h => h) (Or.inl ⟨by rfl, ?_⟩) (by assumption) ?_
                      rotate_left
                      · (intro w hSw; go_simp; try with_reducible rfl)
                      simp only [List.getElem_toArray, List.getElem_cons_succ, List.getElem_cons_zero, Act.put, List.setIfInBounds_toArray, List.set_cons_zero, List.set_cons_succ]
                      refine wpAnyH_norm (l2 := #[true, true, true, true, true, true, true, true, true, true, true, true, true, true, true, true, true, false]) (f2 := 1) (by kernel_rfl) (by kernel_rfl) ?_
                      refine wpAnyH_take (i := 17) (oi := _) (v := ?_) rfl (by kernel_rfl) (by kernel_rfl) (by kernel_rfl) (fun _ _ _ h => h) (Or.inl ⟨by rfl, ?_⟩) (by assumption) ?_
                      rotate_left
                      · (intro w hSw; go_simp; try with_reducible rfl)
                      simp only [List.getElem_toArray, List.getElem_cons_succ, List.getElem_cons_zero, Act.put, List.setIfInBounds_toArray, List.set_cons_zero, List.set_cons_succ]
                      refine wpAnyH_norm (l2 := #[true, true, true, true, true, true, true, true, true, true, true, true, true, true, true, true, true, true]) (f2 := 0) (by kernel_rfl) (by kernel_rfl) ?_
                      refine wpAnyH_done (by kernel_rfl) ?_ _
                      go_wp2_with fail
                      go_meet
                      case rel => exact ⟨gr, br, gs, bs, gt, bt, rfl, rfl, rfl, rr, rs, rt, AR, BT, ⟨by omega, by omega, by omega⟩, ⟨by omega, by omega, by omega, by omega, by omega, by omega, by omega, by omega, by omega⟩, by omega⟩
          · go_simp
            refine hK.out _ _ trivial (fun _ => ?_)
            clear hK K
            simp only [List.getElem_toArray, List.getElem_cons_succ, List.getElem_cons_zero, Act.put, List.setIfInBounds_toArray, List.set_cons_zero, List.set_cons_succ]
            have hb := below1 u65 (Obj.cells #[] 5)
            have hzu77 : (u65.alloc (Obj.cells #[] 5)).heap.size ≤ u65.heap.size + 1 ∧ u65.heap.size + 1 ≤ (u65.alloc (Obj.cells #[] 5)).heap.size := by simp
            have O9 := Own.empty u65 u65.heap.size rfl
            replace AR := AR.later hb
            replace R7 := R7.later hb
            replace RE := RE.later hb
            replace BT := BT.call hb
            clear hb
            generalize u65.alloc (Obj.cells #[] 5) = u77 at *
            obtain ⟨g9, hqg9⟩ : ∃ g, g = u65.heap.size := ⟨_, rfl⟩
            rw [← hqg9]
            rw [← hqg9] at O9
            replace hqg9 := Nat.le_antisymm_iff.1 hqg9
            refine wpAnyH_norm (l2 := #[true, false, true, true, true, true, true, true, false, true, true, false, true, false, false, false, false, false]) (f2 := 8) (by kernel_rfl) (by kernel_rfl) ?_
            refine wpAnyH_ready (rs := [1]) (by kernel_rfl) (by simp) ?_
            refine AllReadyH.cons rfl (fun K hK => ?_) AllReadyH.nil
            · go_simp
              go_wp2_with (first | (go_at_call 9; refine (newReader2 _ _ _ E _ RE (by have := HEb.out; omega)).mono ?_; rintro e u78 ⟨gr, br, rfl, rr, hgr, hbr, hlbr, hb⟩; replace AR := AR.later hb; replace O9 := O9.later hb; replace R7 := R7.later hb; replace RE := RE.later hb; replace BT := BT.call hb; have hmgr := rr.lt; have hzu78 := hb.size; clear hb))
              refine hK.out _ _ trivial (fun _ => ?_)
              clear hK K
              simp only [List.getElem_toArray, List.getElem_cons_succ, List.getElem_cons_zero, Act.put, List.setIfInBounds_toArray, List.set_cons_zero, List.set_cons_succ]
              refine wpAnyH_norm (l2 := #[true, true, true, true, true, true, true, true, false, true, true, false, true, false, false, false, false, false]) (f2 := 7) (by kernel_rfl) (by kernel_rfl) ?_
              refine wpAnyH_ready (rs := [8]) (by kernel_rfl) (by simp) ?_
              refine AllReadyH.cons rfl (fun K hK => ?_) AllReadyH.nil
              · go_simp
                go_wp2_with (first | (go_at_call 9; refine (newReader2 _ _ _ (E.take (E.length - 1)) _ (row_take RE (by have := HEb.out; omega)) (by have := HEb.out; omega)).mono ?_; rintro e u79 ⟨gs, bs, rfl, rs, hgs, hbs, hlbs, hb⟩; replace AR := AR.later hb; replace O9 := O9.later hb; replace R7 := R7.later hb; replace RE := RE.later hb; replace rr := rr.later hb; replace BT := BT.call hb; have hmgs := rs.lt; have hzu79 := hb.size; clear hb))
                refine hK.out _ _ trivial (fun _ => ?_)
                clear hK K
                simp only [List.getElem_toArray, List.getElem_cons_succ, List.getElem_cons_zero, Act.put, List.setIfInBounds_toArray, List.set_cons_zero, List.set_cons_succ]
                refine wpAnyH_norm (l2 := #[true, true, true, true, true, true, true, true, true, true, true, false, true, false, false, false, false, false]) (f2 := 6) (by kernel_rfl) (by kernel_rfl) ?_
                refine wpAnyH_ready (rs := [11]) (by kernel_rfl) (by simp) ?_
                refine AllReadyH.cons rfl (fun K hK => ?_) AllReadyH.nil
                · obtain ⟨a11, c11, u80, hrun, O11, hG⟩ := append_any O9 RE (by omega) (by have := HEb.out; omega)
                  rw [Nat.zero_add, List.nil_append] at O11
                  rw [Nat.zero_add] at hrun
                  have hS : ∀ j, Blk (some ⟨g9, 0, none⟩) j → j = g9 := fun j hj => blk_some hj
                  have hzu80 := hG.but.size
                  have H11 : Hid (∀ j, Blk a11 j → j = g9 ∨ u79.heap.size ≤ j) := fun j hj => by rcases hG.on j hj with h1 | h1; exact .inl (hS j h1); exact .inr h1
                  obtain ⟨z11, hz11⟩ : ∃ z, z = u79.heap.size := ⟨_, rfl⟩
                  rw [← hz11] at H11
                  replace hz11 := Nat.le_antisymm_iff.1 hz11
                  replace RE := RE.but hG.but (fun j hj _ h2 => by have := blk_some hj; have := hS j h2; omega)
                  replace AR := AR.but hG.but (fun h2 => by have := hS _ h2; omega)
                  replace BT := BT.comp hG.but (fun j hj => by have := hS j hj; omega)
                  replace rr := rr.but hG.but (fun h2 => by have := hS _ h2; omega) (fun h2 => by have := hS _ h2; omega)
                  replace rs := rs.but hG.but (fun h2 => by have := hS _ h2; omega) (fun h2 => by have := hS _ h2; omega)
                  replace R7 := R7.but hG.but (fun j hj _ h2 => by have := blk_some hj; have := hS j h2; omega)
                  clear O9 hS hG
                  rw [if_pos (by kernel_rfl)]
                  refine wp_append_known (.tmp 54) (.tmp 55) 22 rfl _ _ rfl rfl _ u80 hrun ?_
                  refine hK.out _ _ trivial (fun _ => ?_)
                  clear hK K
                  simp only [List.getElem_toArray, List.getElem_cons_succ, List.getElem_cons_zero, Act.put, List.setIfInBounds_toArray, List.set_cons_zero, List.set_cons_succ]
                  clear hrun
                  refine wpAnyH_norm (l2 := #[true, true, true, true, true, true, true, true, true, true, true, true, true, false, false, false, false, false]) (f2 := 5) (by kernel_rfl) (by kernel_rfl) ?_
                  refine wpAnyH_ready (rs := [13]) (by kernel_rfl) (by simp) ?_
                  refine AllReadyH.cons rfl (fun K hK => ?_) AllReadyH.nil
                  · obtain ⟨a13, c13, u81, hrun, O13, hG⟩ := append_any O11 R7 (by omega) (by have := HEb.out; omega)
                    have hzu81 := hG.but.size
                    replace RE := RE.but hG.but (fun j hj _ h2 => by have := blk_some hj; have := H11.out j h2; omega)
                    replace AR := AR.but hG.but (fun h2 => by have := H11.out _ h2; omega)
                    replace BT := BT.comp hG.but (fun j hj => by have := H11.out j hj; omega)
                    replace rr := rr.but hG.but (fun h2 => by have := H11.out _ h2; omega) (fun h2 => by have := H11.out _ h2; omega)
                    replace rs := rs.but hG.but (fun h2 => by have := H11.out _ h2; omega) (fun h2 => by have := H11.out _ h2; omega)
                    clear O11 R7 hG H11
                    rw [if_pos (by kernel_rfl)]
                    refine wp_append_known (.tmp 56) (.tmp 57) 22 rfl _ _ rfl rfl _ u81 hrun ?_
                    refine hK.out _ _ trivial (fun _ => ?_)
                    clear hK K
                    simp only [List.getElem_toArray, List.getElem_cons_succ, List.getElem_cons_zero, Act.put, List.setIfInBounds_toArray, List.set_cons_zero, List.set_cons_succ]
                    clear hrun
                    refine wpAnyH_norm (l2 := #[true, true, true, true, true, true, true, true, true, true, true, true, true, true, false, false, false, false]) (f2 := 4) (by kernel_rfl) (by kernel_rfl) ?_
                    refine wpAnyH_ready (rs := [14]) (by kernel_rfl) (by simp) ?_
                    refine AllReadyH.cons rfl (fun K hK => ?_) AllReadyH.nil
                    · go_simp
                      go_wp2_with (first | (go_at_call 9; refine (newReader2 _ _ _ (E ++ [7]) _ O13.read (by have := HEb.out; omega)).mono ?_; rintro e u82 ⟨gt, bt, rfl, rt, hgt, hbt, hlbt, hb⟩; replace AR := AR.later hb; replace O13 := O13.later hb; replace RE := RE.later hb; replace rr := rr.later hb; replace rs := rs.later hb; replace BT := BT.call hb; have hmgt := rt.lt; have hzu82 := hb.size; clear hb))
                      refine hK.out _ _ trivial (fun _ => ?_)
                      clear hK K
                      simp only [List.getElem_toArray, List.getElem_cons_succ, List.getElem_cons_zero, Act.put, List.setIfInBounds_toArray, List.set_cons_zero, List.set_cons_succ]
                      refine wpAnyH_norm (l2 := #[true, true, true, true, true, true, true, true, true, true, true, true, true, true, true, false, false, false]) (f2 := 3) (by kernel_rfl) (by kernel_rfl) ?_
                      refine wpAnyH_take (i := 15) (oi := _) (v := ?_) rfl (by kernel_rfl) (by kernel_rfl) (by kernel_rfl) (fun _ _ _ h => h) (Or.inl ⟨by rfl, ?_⟩) (by assumption) ?_
                      rotate_left
                      · (intro w hSw; go_simp; try with_reducible rfl)
                      simp only [List.getElem_toArray, List.getElem_cons_succ, List.getElem_cons_zero, Act.put, List.setIfInBounds_toArray, List.set_cons_zero, List.set_cons_succ]
                      refine wpAnyH_norm (l2 := #[true, true, true, true, true, true, true, true, true, true, true, true, true, true, true, true, false, false]) (f2 := 2) (by kernel_rfl) (by kernel_rfl) ?_
                      refine wpAnyH_take (i := 16) (oi := _) (v := ?_) rfl (by kernel_rfl) (by kernel_rfl) (by kernel_rfl) (fun _ _ _ h => h) (Or.inl ⟨by rfl, ?_⟩) (by assumption) ?_
                      rotate_left
                      · (intro w hSw; go_simp; try with_reducible rfl)
                      simp only [List.getElem_toArray, List.getElem_cons_succ, List.getElem_cons_zero, Act.put, List.setIfInBounds_toArray, List.set_cons_zero, List.set_cons_succ]
                      refine wpAnyH_norm (l2 := #[true, true, true, true, true, true, true, true, true, true, true, true, true, true, true, true, true, false]) (f2 := 1) (by kernel_rfl) (by kernel_rfl) ?_
                      refine wpAnyH_take (i := 17) (oi := _) (v := ?_) rfl (by kernel_rfl) (by kernel_rfl) (by kernel_rfl) (fun _ _ _ h => h) (Or.inl ⟨by rfl, ?_⟩) (by assumption) ?_
                      rotate_left
                      · (intro w hSw; go_simp; try with_reducible rfl)
                      simp only [List.getElem_toArray, List.getElem_cons_succ, List.getElem_cons_zero, Act.put, List.setIfInBounds_toArray, List.set_cons_zero, List.set_cons_succ]
                      refine wpAnyH_norm (l2 := #[true, true, true, true, true, true, true, true, true, true, true, true, true, true, true, true, true, true]) (f2 := 0) (by kernel_rfl) (by kernel_rfl) ?_
                      refine wpAnyH_done (by kernel_rfl) ?_ _
                      go_wp2_with fail
                      go_meet
                      case rel => exact ⟨gr, br, gs, bs, gt, bt, rfl, rfl, rfl, rr, rs, rt, AR, BT, ⟨by omega, by omega, by omega⟩, ⟨by omega, by omega, by omega, by omega, by omega, by omega, by omega, by omega, by omega⟩, by omega⟩
      case rest =>
        obtain ⟨gr, br, gs, bs, gt, bt, rfl, rfl, rfl, rr, rs, rt, hArr, hbut, hsz, hne, hwr⟩ := hcut
        have HS0 : Hid (BackRel w W gl k F gr br gs bs gt bt (.int .i64 0) wc) := by
          obtain ⟨e1, e2, e3, e4⟩ := HEE.out
          refine ⟨0, by omega, rfl, ?_, ?_, ?_, hArr, hbut.mono (fun b hb => Or.inl hb)⟩
          · rw [Nat.sub_zero, ← e1]; exact rr
          · rw [Nat.min_eq_left (by omega), Nat.sub_zero, ← take_last F k E e1 HFl.out]; exact rs
          · rw [Nat.sub_zero, ← e1]; exact rt
        have HQ : Hid ((W.heap.size ≤ gr ∧ W.heap.size ≤ gs ∧ W.heap.size ≤ gt) ∧ (gr ≠ gs ∧ gr ≠ gt ∧ gs ≠ gt ∧ br ≠ gs ∧ br ≠ gt ∧ bs ≠ gr ∧ bs ≠ gt ∧ bt ≠ gr ∧ bt ≠ gs)) := ⟨hsz, hne⟩
        have hne1 : gr ≠ 0 ∨ gr = 0 := by omega
        clear rr rs rt hArr hbut hsz hne hwr HE2 hne1
        go_wp2
        go_loopw [8] (BackRel w W gl k F gr br gs bs gt bt) (fun t _ => k + 1 - (intOf t).toNat)
        case atStart => exact HS0.out
        case round =>
          clear HS0
          obtain ⟨i, hi, rfl, rr, rs, rt, hArr, hbut⟩ := hrel
          by_cases hlt : i < k + 1
          · have hd : decide ((i : Int) < (k : Int) + 1) = true := by simp; omega
            have hd3 : (i : Int) < (k : Int) + 1 := by omega
            have ei : IntKind.i64.wrap ((i : Int) + 1) = (i : Int) + 1 := by have := HN.out; rw [IntKind.wrap_i64]; omega
            have ek : IntKind.i64.wrap ((k : Int) + 1 - 1) = (k : Int) := by have := HN.out; rw [IntKind.wrap_i64]; omega
            have ek2 : IntKind.i64.wrap (k : Int) = (k : Int) := by have := HN.out; rw [IntKind.wrap_i64]; omega
            have hGood : ∀ u : World, But (fun b => b = gl ∨ b = gr ∨ b = gs ∨ b = gt) W u → ((F i).mk62).Good u := fun u hu => by
              obtain ⟨h1, h2, h3, h4⟩ := HB.out
              have hq := HQ.out.1
              have g0 := ((HGd.out i hlt).1).later h1
              exact It.good62 ⟨g0.v, g0.hi, g0.lo, g0.row.but hu (fun b hb hL e => by
                have := ((HGd.out i hlt).1).row.blk_lt hL b hb
                have := h1.size
                omega)⟩
            have HG : Hid (∀ u : World, But (fun b => b = gl ∨ b = gr ∨ b = gs ∨ b = gt) W u → ((F i).mk62).Good u) := hGood
            have hlaid := It.laid62 (F i)
            have hLen : (encR (fun j => (F j).mk62) (i + 1) (k + 1 - (i + 1))).length ≤ 2199023255552 := by
              have h2 := encR_len2 (fun j => (F j).mk62) w (k + 1) 1048576 (fun j hj => It.good62 (HGd.out j hj).1) (fun j hj => (HGd.out j hj).2) (k + 1 - (i + 1)) (i + 1) (by omega)
              have h3 : (k + 1 - (i + 1)) * (1048576 + 24) ≤ 1048577 * 1048600 := Nat.mul_le_mul (by have := HN.out; omega) (by omega)
              omega
            have hLen2 : (encR (fun j => (F j).mk62) (i + 1) (k - (i + 1))).length ≤ 2199023255552 := by
              by_cases hik : i < k
              · have h2 := encR_len2 (fun j => (F j).mk62) w (k + 1) 1048576 (fun j hj => It.good62 (HGd.out j hj).1) (fun j hj => (HGd.out j hj).2) (k - (i + 1)) (i + 1) (by omega)
                have h3 : (k - (i + 1)) * (1048576 + 24) ≤ 1048577 * 1048600 := Nat.mul_le_mul (by have := HN.out; omega) (by omega)
                omega
              · have : k - (i + 1) = 0 := by omega
                rw [this]; simp [encR]
            have hEl : ((F i).mk62).enc.length ≤ 1048600 := by
              have h1 := enc_len ((F i).mk62) w (It.good62 (HGd.out i hlt).1)
              have h2 : (F i).mk62.n ≤ 1048576 := (HGd.out i hlt).2
              omega
            have HNe : Hid (∀ b, Blk ((F i).mk62).a b → ((F i).mk62).L ≠ [] → b ≠ gr ∧ b ≠ gs ∧ b ≠ gt) := fun b hb hL => by
              obtain ⟨h1, h2, h3, h4⟩ := HB.out
              have hq := HQ.out.1
              have := (It.good62 (HGd.out i hlt).1).row.blk_lt hL b hb
              have := h1.size
              omega
            have hX := (hArr i hlt).1
            rw [mixF_all F (k + 1) i hlt] at hX
            have hc1 := encR_cons (fun j => (F j).mk62) i (k + 1) hlt
            have hc2 : i < k → encR (fun j => (F j).mk62) (min i k) (k - min i k) = ((F i).mk62).enc ++ encR (fun j => (F j).mk62) (i + 1) (k - (i + 1)) := fun hik => by
              rw [Nat.min_eq_left (by omega)]
              exact encR_cons (fun j => (F j).mk62) i k hik
            obtain ⟨t, ht⟩ : ∃ t, t = (F i).mk62 := ⟨_, rfl⟩
            obtain ⟨RL, hRL⟩ : ∃ RL, RL = encR (fun j => (F j).mk62) (i + 1) (k + 1 - (i + 1)) := ⟨_, rfl⟩
            obtain ⟨SL, hSL⟩ : ∃ SL, SL = encR (fun j => (F j).mk62) (i + 1) (k - (i + 1)) := ⟨_, rfl⟩
            simp only [← ht] at HG hlaid hEl HNe hX hc1 hc2 hGood
            rw [hc1, ← hRL] at rr rt
            rw [← hRL] at hLen
            rw [← hSL] at hLen2
            rw [List.append_assoc] at rt
            have HC2 : Hid (i < k → encR (fun j => (F j).mk62) (min i k) (k - min i k) = t.enc ++ SL) := fun hik => by rw [hSL]; exact hc2 hik
            have HRL : Hid (RL = encR (fun j => (F j).mk62) (i + 1) (k + 1 - (i + 1)) ∧ SL = encR (fun j => (F j).mk62) (i + 1) (k - (i + 1))) := ⟨hRL, hSL⟩
            have HLn : Hid (RL.length ≤ 2199023255552 ∧ SL.length ≤ 2199023255552 ∧ t.enc.length ≤ 1048600) := ⟨hLen, hLen2, hEl⟩
            have htl : tl7.length = 7 := by decide
            have HTL : Hid (tl7.length = 7) := htl
            have HLd : Hid t.Laid := hlaid
            clear hc1 hc2 hRL hSL hLen hLen2 hEl hGood htl ht hlaid
            have y0 := hX.c0
            have y1 := hX.c1
            have y2 := hX.c2
            have y3 := hX.c3
            have y4 := hX.c4
            have y5 := hX.c5
            go_upto_region 17 with (first | (go_at_call 23; refine (back_any gr br RL t _ rr (HG.out _ hbut) HLd.out (by have := HLn.out; simp; omega) (fun b hb hL => (HNe.out b hb hL).1)).mono ?_; rintro e w8 ⟨rfl, r1, hb8⟩))
            have hq := HQ.out
            replace hX := hX.but hb8 (by have := HB.out.2.1; omega)
            replace hArr := hArr.but hb8 (by have := HB.out.2.1; omega)
            replace rs := rs.but hb8 (by omega) (by omega)
            replace rt := rt.but hb8 (by omega) (by omega)
            replace hbut := hbut.trans (hb8.mono (fun b hb => Or.inr (Or.inl hb)))
            clear hb8 rr y0 y1 y2 y3 y4 y5 hq
            have y0 := hX.c0
            have y1 := hX.c1
            have y2 := hX.c2
            have y3 := hX.c3
            have y4 := hX.c4
            have y5 := hX.c5
            go_upto_region 20 with (first | (go_at_call 23; refine (back_any gt bt (RL ++ [7]) t _ rt (HG.out _ hbut) HLd.out (by have := HLn.out; simp; omega) (fun b hb hL => (HNe.out b hb hL).2.2)).mono ?_; rintro e w9 ⟨rfl, t1, hb9⟩))
            have hq := HQ.out
            replace hX := hX.but hb9 (by have := HB.out.2.1; omega)
            replace hArr := hArr.but hb9 (by have := HB.out.2.1; omega)
            replace rs := rs.but hb9 (by omega) (by omega)
            replace r1 := r1.but hb9 (by omega) (by omega)
            replace hbut := hbut.trans (hb9.mono (fun b hb => Or.inr (Or.inr (Or.inr hb))))
            clear hb9 rt y0 y1 y2 y3 y4 y5 hq
            by_cases hik : i < k
            · have hdk : decide ((i : Int) < (k : Int)) = true := by simp; omega
              rw [HC2.out hik, List.append_assoc] at rs
              have y0 := hX.c0
              have y1 := hX.c1
              have y2 := hX.c2
              have y3 := hX.c3
              have y4 := hX.c4
              have y5 := hX.c5
              go_upto_region 24 with (first | (go_at_call 23; refine (back_any gs bs (SL ++ tl7) t _ rs (HG.out _ hbut) HLd.out (by have := HLn.out; have := HTL.out; simp; omega) (fun b hb hL => (HNe.out b hb hL).2.1)).mono ?_; rintro e w10 ⟨rfl, s1, hb10⟩))
              have hq := HQ.out
              replace hArr := hArr.but hb10 (by have := HB.out.2.1; omega)
              replace r1 := r1.but hb10 (by omega) (by omega)
              replace t1 := t1.but hb10 (by omega) (by omega)
              replace hbut := hbut.trans (hb10.mono (fun b hb => Or.inr (Or.inr (Or.inl hb))))
              have HRel : Hid (BackRel w W gl k F gr br gs bs gt bt (.int .i64 ((i : Int) + 1)) w10) := by
                refine ⟨i + 1, by omega, by simp, ?_, ?_, ?_, hArr, hbut⟩
                · rw [← HRL.out.1]; exact r1
                · rw [Nat.min_eq_left (by omega), ← HRL.out.2]; exact s1
                · rw [← HRL.out.1]; exact t1
              clear hb10 rs y0 y1 y2 y3 y4 y5 hq hX hArr r1 t1 s1 hbut
              go_wp2
              go_roundw
              case rel => exact HRel.out
              case measure => simp [intOf]; omega
            · have hdk : decide ((i : Int) < (k : Int)) = false := decide_eq_false (by omega)
              have HRel : Hid (BackRel w W gl k F gr br gs bs gt bt (.int .i64 ((i : Int) + 1)) w9) := by
                refine ⟨i + 1, by omega, by simp, ?_, ?_, ?_, hArr, hbut⟩
                · rw [← HRL.out.1]; exact r1
                · rw [Nat.min_eq_right (by omega)]; rw [Nat.min_eq_right (by omega)] at rs; exact rs
                · rw [← HRL.out.1]; exact t1
              clear rs hX hArr r1 t1 hbut
              go_wp2
              go_roundw
              case rel => exact HRel.out
              case measure => simp [intOf]; omega
          · obtain rfl : i = k + 1 := by omega
            rw [Nat.sub_self] at rr rt
            rw [Nat.min_eq_right (by omega), Nat.sub_self] at rs
            change Rd wr gr br [] at rr
            change Rd wr gs bs tl7 at rs
            change Rd wr gt bt [7] at rt
            have q1 : lookE tl7 8 = 17 := by decide
            have q2 : lookV tl7 8 = 0 := by decide
            have q3 : tl7.drop (numN tl7 8) = tl7 := by decide
            have q4 : endE [] = 0 := by decide
            have q5 : endE [7] = 23 := by decide
            have q6 : tl7.length = 7 := by decide
            have HFin : Hid (∀ u : World, But (fun b => b = gl ∨ b = gr ∨ b = gs ∨ b = gt) W u → Below w.heap.size w u) := fun u hu => by
              obtain ⟨h1, h2, h3, h4⟩ := HB.out
              have hq := HQ.out.1
              have := h1.size
              exact But.below h1 hu (fun b hb => by omega)
            have ecast : ((k + 1 : Nat) : Int) = (k : Int) + 1 := by simp
            rw [ecast]
            clear ecast hArr
            go_upto_region 27 with (first | (go_at_call 24; refine (left_any gs bs tl7 _ rs).mono ?_; rintro e ws ⟨rfl, rfl⟩; rw [q6]))
            go_upto_region 28 with (first | (go_at_call 25; refine (number_any gs bs tl7 8 _ rs).mono ?_; rintro e w11 ⟨rfl, s1, hb11⟩; rw [q1, q2]; rw [q3] at s1))
            have hq := HQ.out
            replace rr := rr.but hb11 (by omega) (by omega)
            replace rt := rt.but hb11 (by omega) (by omega)
            replace hbut := hbut.trans (hb11.mono (fun b hb => Or.inr (Or.inr (Or.inl hb))))
            clear rs hb11 hq
            go_wp2_with (first | (go_at_call_of 26 (Value.pointer (some ⟨gr, 0, none⟩)); refine (end_any gr br [] _ rr).mono ?_; rintro e ws ⟨rfl, rfl⟩; rw [q4]) | (go_at_call_of 24 (Value.pointer (some ⟨gr, 0, none⟩)); refine (left_any gr br [] _ rr).mono ?_; rintro e ws ⟨rfl, rfl⟩) | (go_at_call_of 26 (Value.pointer (some ⟨gt, 0, none⟩)); refine (end_any gt bt [7] _ rt).mono ?_; rintro e ws ⟨rfl, rfl⟩; rw [q5]) | (go_at_call_of 24 (Value.pointer (some ⟨gt, 0, none⟩)); refine (left_any gt bt [7] _ rt).mono ?_; rintro e ws ⟨rfl, rfl⟩) | (go_at_call_of 24 (Value.pointer (some ⟨gs, 0, none⟩)); refine (left_any gs bs tl7 _ s1).mono ?_; rintro e ws ⟨rfl, rfl⟩; rw [q6]))
            go_ret
            exact ⟨rfl, HFin.out _ hbut⟩
end Go.Proofs.Ytjncgpekmilpeaa
