import Derived.Test.YtejkbeeffllpfaaR3
namespace Go.Proofs.Ytejkbeeffllpfaa
open Go.RowKit
set_option linter.unusedVariables false
set_option linter.unusedSimpArgs false

theorem und88 : Try.prog.underlying 88 = some (.slice (Try.prog.elem 88)) := by kernel_rfl
theorem size_el88 (W : World) : (sizeOf (Try.prog.elem 88)).run Try.prog W = .ok 2 W := by
  have e : Try.prog.elem 88 = 92 := by kernel_rfl
  obtain ⟨i, hi, hz0, hz1, hz2⟩ := info_parts info92
  rw [e]
  simp [sizeOf, typeInfo, hi, hz1]
theorem cut_to2 (g n cap k : Nat) (hk : k ≤ cap) (W : World) :
    (Instr.sliceAt 88 (.slice (some ⟨g, 0, none⟩) n cap) none (some (.int .i64 (k : Int))) none).run Try.prog W = .ok (.slice (some ⟨g, 0, none⟩) k cap) W := by
  rw [run_sliceAt_slice W 88 _ _ _ _ und88, run_slice_h W 88 _ n cap und88 .i64 (k : Int) (by omega) (by omega), size_el88]
  simp [sliced, Addr.add]
theorem cut_from2 (g n cap k : Nat) (hk : k < n) : ∃ so, (so = 0 ∧ cap = k + 1 ∨ so = (k + 1) * 2) ∧ ∀ W : World,
    (Instr.sliceAt 88 (.slice (some ⟨g, 0, none⟩) n cap) (some (.int .i64 ((k : Int) + 1))) none none).run Try.prog W = .ok (.slice (some ⟨g, so, none⟩) (n - (k + 1)) (cap - (k + 1))) W := by
  have h : ∀ W : World, (Instr.sliceAt 88 (.slice (some ⟨g, 0, none⟩) n cap) (some (.int .i64 ((k : Int) + 1))) none none).run Try.prog W = .ok (sliced (some ⟨g, 0, none⟩) (k + 1) n cap 2) W := fun W => by
    rw [run_sliceAt_slice W 88 _ _ _ _ und88, run_slice_l W 88 _ n cap und88 .i64 ((k : Int) + 1) (by omega) (by omega), size_el88]
    have e : ((k : Int) + 1).toNat = k + 1 := by omega
    simp [e]
  by_cases hc : cap = k + 1
  · exact ⟨0, .inl ⟨rfl, hc⟩, fun W => by rw [h W]; simp [sliced, hc]⟩
  · exact ⟨(k + 1) * 2, .inr rfl, fun W => by rw [h W]; simp [sliced, hc, addr_add0]⟩
/-- The document's store with another list. -/
theorem Rf.relist {w w' : World} {base r room n : Nat} {nx : Int} {V : List (Int × List Nat)} {G : Int → Nat} {a : Option Addr} {cap : Nat} {col : Nat → Nat} (h : Rf w base r room n nx V G a cap col) {V' : List (Int × List Nat)} {a' : Option Addr} {cap' : Nat}
    (hsub : ∀ p ∈ V', p ∈ V) (hrise : V'.Pairwise (fun a b => a.1 < b.1)) (hlen : V'.length ≤ V.length) (hbel : Below w.heap.size w w') (hO : w'.ownsRow base 92 2 (.slice a' V'.length cap') V'.length (rcs G V')) (hblk : ∀ k, Blk a' k → w.heap.size ≤ k ∧ k < w'.heap.size) :
    Rf (w'.setCell ⟨r, 2, none⟩ (.slice a' V'.length cap')) base r room n nx V' G a' cap' (fun k => if w.heap.size ≤ k ∧ k < w'.heap.size then 2 else col k) := by
  have b4 : But (· = r) w' (w'.setCell ⟨r, 2, none⟩ (.slice a' V'.length cap')) := But.setCell (S := (· = r)) (But.refl _ _) (p := ⟨r, 2, none⟩) (show r = r from rfl) _
  have hrl := h.lt r (by rw [h.k1]; decide)
  have hin : ∀ k, col k ≠ 0 → (if w.heap.size ≤ k ∧ k < w'.heap.size then 2 else col k) = col k := fun k hk => if_neg (by have := h.lt k hk; omega)
  have hsz := hbel.size
  refine ⟨(h.c0.later hbel).other (by simp), (h.c1.later hbel).other (by simp), (h.c2.later hbel).put, (h.c3.later hbel).other (by simp), own_but b4 hO (fun k hk e => ?_), fun p hp => ((h.cel p (hsub p hp)).but (S := fun _ => False) (But.of hbel) (fun h => h)).but b4 (fun e => ?_), ?_, fun k hk => if_pos (hblk k hk), fun p hp => ?_, fun k hk => ?_, fun k hk => ?_, Nat.le_trans h.hb (Nat.le_trans hsz b4.size), hrise, fun p hp => h.ids p (hsub p hp), h.nx1, ⟨by have := h.rm; omega, h.rm.2⟩, h.nn, fun p hp => h.big p (hsub p hp), fun p hp => h.small p (hsub p hp)⟩
  · have := (hblk k (Blk.of.1 hk)).1
    omega
  · have h1 := h.k3 p (hsub p hp)
    rw [e, h.k1] at h1
    omega
  · rw [hin r (by rw [h.k1]; decide)]
    exact h.k1
  · rw [hin _ (by rw [h.k3 p (hsub p hp)]; omega)]
    exact h.k3 p (hsub p hp)
  · refine Nat.lt_of_lt_of_le ?_ b4.size
    by_cases e : w.heap.size ≤ k ∧ k < w'.heap.size
    · exact e.2
    · rw [if_neg e] at hk
      exact Nat.lt_of_lt_of_le (h.lt k hk) hsz
  · by_cases e : w.heap.size ≤ k ∧ k < w'.heap.size
    · have := h.hb
      omega
    · rw [if_neg e] at hk
      exact h.ge k hk
set_option maxRecDepth 100000 in
set_option maxHeartbeats 2000000 in
theorem rdestroy_any (base r room n : Nat) (nx : Int) (V : List (Int × List Nat)) (G : Int → Nat) (a : Option Addr) (cap : Nat) (col : Nat → Nat) (id : Int) (w : World) (h : Rf w base r room n nx V G a cap col) :
    Calls Try.prog 37 #[.pointer (some ⟨r, 0, none⟩), .int .i64 id] w fun e w' => ((∀ p ∈ V, p.1 ≠ id) ∧ e = .returned (.int .i64 20) ∧ w' = w) ∨
      (∃ (i : Nat) (hi : i < V.length), V[i].1 = id ∧ e = .returned (.int .i64 0) ∧ ∃ a' cap' col', Rf w' base r room n nx (V.take i ++ V.drop (i + 1)) G a' cap' col' ∧ (∀ j, col' j ≠ 0 → col j ≠ 0 ∨ w.heap.size ≤ j) ∧ But (· = r) w w') := by
  have x := h.c2.1
  have xf := h.c2.2
  have H := hid h
  have hcap := h.cap_
  have hrm := h.rm
  have hbs := h.hb
  clear h
  go_enter Try.func37, Try.ntmps37
  go_upto_region 2 with (first | (go_at_call 43; refine (rat_any base r room n nx V G a cap col id _ H.out).mono ?_; rintro e w1 ⟨v, rfl, hI, hw⟩; obtain rfl := hw.symm))
  rcases hI with ⟨i, hi, rfl, e⟩ | ⟨rfl, hn⟩
  · have hd : decide ((i : Int) < 0) = false := decide_eq_false (by omega)
    obtain ⟨ga, rfl, hc⟩ := H.out.cells (by omega)
    have HE := hid e
    have HI := hid hi
    obtain ⟨L, hL⟩ : ∃ L, L = V.length := ⟨_, rfl⟩
    rw [← hL] at x hcap hrm hi
    have HL := hid hL
    have hcellsV : ∀ j v, (rcs G V)[j]? = some v → w.cell? ⟨ga, j, none⟩ = some v := fun j v hv => by
      have := H.out.own.cells (g := ga) rfl j v hv
      rwa [addr_add0] at this
    have hc1 := cut_to2 ga L cap i (by omega) w
    obtain ⟨so, hso, hcf⟩ := cut_from2 ga L cap i hi
    obtain ⟨a1, c1, w1, hrun1, hO1, hG1⟩ := append_gen2 (u := w) (base := w.heap.size) (a := none) (n := 0) (cap := 0) (L := []) (b := some ⟨ga, 0, none⟩) (m := i) (c := cap) (M := rcs G (V.take i)) ⟨rfl, .inl ⟨rfl, rfl⟩⟩ (by rw [rcs_length, List.length_take]; omega) (fun e => by cases e) (fun x hx j v hv => by
      cases hx
      rw [addr_add0]
      rw [rcs_take, List.getElem?_take] at hv
      split at hv
      · exact hcellsV j v hv
      · cases hv) (rcs_one G _) (Nat.le_refl _) (by omega)
    rw [Nat.zero_add] at hrun1 hO1
    have hB1 : Below w.heap.size w w1 := ⟨hG1.but.os, hG1.but.tape, hG1.but.output, hG1.but.size, fun k hk => hG1.but.block k hk (fun e => by obtain ⟨_, e, _⟩ := e; cases e)⟩
    have hcut2 := hcf w1
    obtain ⟨a2, c2, w2, hrun2, hO2, hG2⟩ := append_gen2 (u := w1) (base := w.heap.size) (a := a1) (n := i) (cap := c1) (L := [] ++ rcs G (V.take i)) (b := some ⟨ga, so, none⟩) (m := L - (i + 1)) (c := cap - (i + 1)) (M := rcs G (V.drop (i + 1))) hO1 (by rw [rcs_length, List.length_drop]; omega) (fun e => by cases e) (fun x hx j v hv => by
      cases hx
      rw [addr_add]
      rcases hso with ⟨h1, h2⟩ | h1
      · have : V.drop (i + 1) = [] := List.drop_of_length_le (by omega)
        rw [this] at hv
        cases hv
      · rw [rcs_drop, List.getElem?_drop] at hv
        rw [h1]
        exact cell_later hB1 (hcellsV _ v hv)) (rcs_one G _) hB1.size (by omega)
    have hB2 : Below w.heap.size w w2 := hB1.trans ⟨hG2.but.os, hG2.but.tape, hG2.but.output, hG2.but.size, fun k hk => hG2.but.block k (Nat.lt_of_lt_of_le hk hB1.size) (fun e => by
      rcases hG1.on k e with h1 | h1
      · obtain ⟨_, h1, _⟩ := h1
        cases h1
      · omega)⟩
    have hlen : (V.take i ++ V.drop (i + 1)).length = L - 1 := by simp; omega
    have HLN := hid hlen
    have e1 : i + (L - (i + 1)) = L - 1 := by omega
    rw [e1] at hrun2 hO2
    have HO2 : Hid (w2.ownsRow base 92 2 (.slice a2 (L - 1) c2) (L - 1) (rcs G (V.take i ++ V.drop (i + 1)))) := hid (by
      rw [rcs_append]
      have := own_mono hO2 hbs
      simpa using this)
    have HB2 := hid hB2
    have HBLK : Hid (∀ k, Blk a2 k → w.heap.size ≤ k ∧ k < w2.heap.size) := hid (fun k hk => own_block hO2 k (Blk.of.2 hk))
    have HRUN1 := hid hrun1
    have HRUN2 := hid hrun2
    have x1 := cell_later hB1 x
    have xx := (H.out.c2.later hB2)
    have xx1 := xx.1
    have xx2 := xx.2
    clear hc hL hcellsV hcf hrun1 hO1 hG1 hB1 hrun2 hO2 hG2 hB2 hlen e1 xx e hso
    have hwr : IntKind.i64.wrap ((i : Int) + 1) = (i : Int) + 1 := by rw [IntKind.wrap_i64]; omega
    go_upto_region 6 with (first | (at_builtin; refine wpList_append_known rfl _ _ 88 rfl _ _ rfl rfl _ w1 HRUN1.out ?_))
    go_wp2_with (first | (at_builtin; refine wpList_append_known rfl _ _ 88 rfl _ _ rfl rfl _ w2 HRUN2.out ?_))
    go_ret
    refine .inr ⟨i, HI.out, HE.out, rfl, a2, c2, (fun k => if w.heap.size ≤ k ∧ k < w2.heap.size then 2 else col k), ?_, ?_, But.setCell (S := (· = r)) (But.of HB2.out) (p := ⟨r, 2, none⟩) (show r = r from rfl) _⟩
    · have := H.out.relist (V' := V.take i ++ V.drop (i + 1)) (a' := a2) (cap' := c2) (w' := w2) (fun p hp => ?_) ?_ (by rw [HLN.out]; have := HL.out; omega) HB2.out (by rw [HLN.out]; exact HO2.out) HBLK.out
      · rw [HLN.out] at this
        exact this
      · rcases List.mem_append.1 hp with h1 | h1
        · exact List.mem_of_mem_take h1
        · exact List.mem_of_mem_drop h1
      · rw [← List.eraseIdx_eq_take_drop_succ]
        exact List.Pairwise.sublist (List.eraseIdx_sublist V i) H.out.rise
    · intro j hj
      by_cases e : w.heap.size ≤ j ∧ j < w2.heap.size
      · exact .inr e.1
      · simp only [if_neg e] at hj
        exact .inl hj
  · go_wp2
    go_ret
    exact .inl ⟨hn, rfl, rfl⟩
end Go.Proofs.Ytejkbeeffllpfaa
