import Derived.Test.YtnjadfgfpebkdaaGreatSH
namespace Go.Proofs.YtnjadfgfpebkdaaGreat.S
open Go.RowKit
set_option linter.unusedVariables false
set_option linter.unusedSimpArgs false

theorem und88 : Tryz.prog.underlying 125 = some (.slice (Tryz.prog.elem 125)) := by kernel_rfl
theorem size_el88 (W : World) : (sizeOf (Tryz.prog.elem 125)).run Tryz.prog W = .ok 2 W := by
  have e : Tryz.prog.elem 125 = 158 := by kernel_rfl
  obtain ⟨i, hi, hz0, hz1, hz2⟩ := info_parts info158
  rw [e]
  simp [sizeOf, typeInfo, hi, hz1]
theorem cut_to2 (g n cap k : Nat) (hk : k ≤ cap) (W : World) :
    (Instr.sliceAt 125 (.slice (some ⟨g, 0, none⟩) n cap) none (some (.int .i64 (k : Int))) none).run Tryz.prog W = .ok (.slice (some ⟨g, 0, none⟩) k cap) W := by
  rw [run_sliceAt_slice W 125 _ _ _ _ und88, run_slice_h W 125 _ n cap und88 .i64 (k : Int) (by omega) (by omega), size_el88]
  simp [sliced, Addr.add]
theorem cut_from2 (g n cap k : Nat) (hk : k < n) : ∃ so, (so = 0 ∧ cap = k + 1 ∨ so = (k + 1) * 2) ∧ ∀ W : World,
    (Instr.sliceAt 125 (.slice (some ⟨g, 0, none⟩) n cap) (some (.int .i64 ((k : Int) + 1))) none none).run Tryz.prog W = .ok (.slice (some ⟨g, so, none⟩) (n - (k + 1)) (cap - (k + 1))) W := by
  have h : ∀ W : World, (Instr.sliceAt 125 (.slice (some ⟨g, 0, none⟩) n cap) (some (.int .i64 ((k : Int) + 1))) none none).run Tryz.prog W = .ok (sliced (some ⟨g, 0, none⟩) (k + 1) n cap 2) W := fun W => by
    rw [run_sliceAt_slice W 125 _ _ _ _ und88, run_slice_l W 125 _ n cap und88 .i64 ((k : Int) + 1) (by omega) (by omega), size_el88]
    have e : ((k : Int) + 1).toNat = k + 1 := by omega
    simp [e]
  by_cases hc : cap = k + 1
  · exact ⟨0, .inl ⟨rfl, hc⟩, fun W => by rw [h W]; simp [sliced, hc]⟩
  · exact ⟨(k + 1) * 2, .inr rfl, fun W => by rw [h W]; simp [sliced, hc, addr_add0]⟩
/-- The document's store with another list. -/
theorem Rf.relist {w w' : World} {base r room n : Nat} {nx : Int} {V : List (Int × List Nat)} {G : Int → Nat} {a : Option Addr} {cap : Nat} {col : Nat → Nat} (h : Rf w base r room n nx V G a cap col) {V' : List (Int × List Nat)} {a' : Option Addr} {cap' : Nat}
    (hsub : ∀ p ∈ V', p ∈ V) (hrise : V'.Pairwise (fun a b => a.1 < b.1)) (hlen : V'.length ≤ V.length) (hbel : Below w.heap.size w w') (hO : w'.ownsRow base 158 2 (.slice a' V'.length cap') V'.length (rcs G V')) (hblk : ∀ k, Blk a' k → w.heap.size ≤ k ∧ k < w'.heap.size) :
    Rf (w'.setCell ⟨r, 2, none⟩ (.slice a' V'.length cap')) base r room n nx V' G a' cap' (fun k => if w.heap.size ≤ k ∧ k < w'.heap.size then 2 else col k) := by
  have b4 : But (· = r) w' (w'.setCell ⟨r, 2, none⟩ (.slice a' V'.length cap')) := But.setCell (S := (· = r)) (But.refl _ _) (p := ⟨r, 2, none⟩) (show r = r from rfl) _
  have hrl := h.lt r (by rw [h.k1]; decide)
  have hin : ∀ k, col k ≠ 0 → (if w.heap.size ≤ k ∧ k < w'.heap.size then 2 else col k) = col k := fun k hk => if_neg (by have := h.lt k hk; omega)
  have hsz := hbel.size
  refine ⟨(h.c0.later hbel).other (by simp), (h.c1.later hbel).other (by simp), (h.c2.later hbel).put, (h.c3.later hbel).other (by simp), own_but b4 hO (fun k hk e => ?_), fun p hp => ((h.cel p (hsub p hp)).but (S := fun _ => False) (But.of hbel) (fun h => h)).but b4 (fun e => ?_), ?_, fun k hk => if_pos (hblk k hk), fun p hp => ?_, fun k hk => ?_, fun k hk => ?_, Nat.le_trans h.hb (Nat.le_trans hsz b4.size), hrise, fun p hp => h.ids p (hsub p hp), h.nx1, ⟨by have := h.rm; omega, h.rm.2⟩, h.nn, fun p hp => h.big p (hsub p hp), fun p hp => h.small p (hsub p hp)⟩
  · have := (hblk k (Blk.of.1 hk)).1
    omega
  · have h1 := h.k3 p (hsub p hp)
    rw [e, h.k1] at h1
    omega
  · rw [hin r (by rw [h.k1]; decide)]
    exact h.k1
  · rw [hin _ (by rw [h.k3 p (hsub p hp)]; omega)]
    exact h.k3 p (hsub p hp)
  · refine Nat.lt_of_lt_of_le ?_ b4.size
    by_cases e : w.heap.size ≤ k ∧ k < w'.heap.size
    · exact e.2
    · rw [if_neg e] at hk
      exact Nat.lt_of_lt_of_le (h.lt k hk) hsz
  · by_cases e : w.heap.size ≤ k ∧ k < w'.heap.size
    · have := h.hb
      omega
    · rw [if_neg e] at hk
      exact h.ge k hk
set_option maxRecDepth 100000 in
set_option maxHeartbeats 2000000 in
theorem rdestroy_any (base r room n : Nat) (nx : Int) (V : List (Int × List Nat)) (G : Int → Nat) (a : Option Addr) (cap : Nat) (col : Nat → Nat) (id : Int) (w : World) (h : Rf w base r room n nx V G a cap col) :
    Calls Tryz.prog 68 #[.pointer (some ⟨r, 0, none⟩), .int .i64 id] w fun e w' => ((∀ p ∈ V, p.1 ≠ id) ∧ e = .returned (.int .i64 20) ∧ w' = w) ∨
      (∃ (i : Nat) (hi : i < V.length), V[i].1 = id ∧ e = .returned (.int .i64 0) ∧ ∃ a' cap' col', Rf w' base r room n nx (V.take i ++ V.drop (i + 1)) G a' cap' col' ∧ (∀ j, col' j ≠ 0 → col j ≠ 0 ∨ w.heap.size ≤ j) ∧ But (· = r) w w') := by
  have x := h.c2.1
  have xf := h.c2.2
  have H := hid h
  have hcap := h.cap_
  have hrm := h.rm
  have hbs := h.hb
  clear h
  go_enter Tryz.func68, Tryz.ntmps68
  go_upto_region 2 with (first | (go_at_call 76; refine (rat_any base r room n nx V G a cap col id _ H.out).mono ?_; rintro e w1 ⟨v, rfl, hI, hw⟩; obtain rfl := hw.symm))
  rcases hI with ⟨i, hi, rfl, e⟩ | ⟨rfl, hn⟩
  · have hd : decide ((i : Int) < 0) = false := decide_eq_false (by omega)
    obtain ⟨ga, rfl, hc⟩ := H.out.cells (by omega)
    have HE := hid e
    have HI := hid hi
    obtain ⟨L, hL⟩ : ∃ L, L = V.length := ⟨_, rfl⟩
    rw [← hL] at x hcap hrm hi
    have HL := hid hL
    have hcellsV : ∀ j v, (rcs G V)[j]? = some v → w.cell? ⟨ga, j, none⟩ = some v := fun j v hv => by
      have := H.out.own.cells (g := ga) rfl j v hv
      rwa [addr_add0] at this
    have hc1 := cut_to2 ga L cap i (by omega) w
    obtain ⟨so, hso, hcf⟩ := cut_from2 ga L cap i hi
    obtain ⟨a1, c1, w1, hrun1, hO1, hG1⟩ := append_gen2 (u := w) (base := w.heap.size) (a := none) (n := 0) (cap := 0) (L := []) (b := some ⟨ga, 0, none⟩) (m := i) (c := cap) (M := rcs G (V.take i)) ⟨rfl, .inl ⟨rfl, rfl⟩⟩ (by rw [rcs_length, List.length_take]; omega) (fun e => by cases e) (fun x hx j v hv => by
      cases hx
      rw [addr_add0]
      rw [rcs_take, List.getElem?_take] at hv
      split at hv
      · exact hcellsV j v hv
      · cases hv) (rcs_one G _) (Nat.le_refl _) (by omega)
    rw [Nat.zero_add] at hrun1 hO1
    have hB1 : Below w.heap.size w w1 := ⟨hG1.but.os, hG1.but.tape, hG1.but.output, hG1.but.size, fun k hk => hG1.but.block k hk (fun e => by obtain ⟨_, e, _⟩ := e; cases e)⟩
    have hcut2 := hcf w1
    obtain ⟨a2, c2, w2, hrun2, hO2, hG2⟩ := append_gen2 (u := w1) (base := w.heap.size) (a := a1) (n := i) (cap := c1) (L := [] ++ rcs G (V.take i)) (b := some ⟨ga, so, none⟩) (m := L - (i + 1)) (c := cap - (i + 1)) (M := rcs G (V.drop (i + 1))) hO1 (by rw [rcs_length, List.length_drop]; omega) (fun e => by cases e) (fun x hx j v hv => by
      cases hx
      rw [addr_add]
      rcases hso with ⟨h1, h2⟩ | h1
      · have : V.drop (i + 1) = [] := List.drop_of_length_le (by omega)
        rw [this] at hv
        cases hv
      · rw [rcs_drop, List.getElem?_drop] at hv
        rw [h1]
        exact cell_later hB1 (hcellsV _ v hv)) (rcs_one G _) hB1.size (by omega)
    have hB2 : Below w.heap.size w w2 := hB1.trans ⟨hG2.but.os, hG2.but.tape, hG2.but.output, hG2.but.size, fun k hk => hG2.but.block k (Nat.lt_of_lt_of_le hk hB1.size) (fun e => by
      rcases hG1.on k e with h1 | h1
      · obtain ⟨_, h1, _⟩ := h1
        cases h1
      · omega)⟩
    have hlen : (V.take i ++ V.drop (i + 1)).length = L - 1 := by simp; omega
    have HLN := hid hlen
    have e1 : i + (L - (i + 1)) = L - 1 := by omega
    rw [e1] at hrun2 hO2
    have HO2 : Hid (w2.ownsRow base 158 2 (.slice a2 (L - 1) c2) (L - 1) (rcs G (V.take i ++ V.drop (i + 1)))) := hid (by
      rw [rcs_append]
      have := own_mono hO2 hbs
      simpa using this)
    have HB2 := hid hB2
    have HBLK : Hid (∀ k, Blk a2 k → w.heap.size ≤ k ∧ k < w2.heap.size) := hid (fun k hk => own_block hO2 k (Blk.of.2 hk))
    have HRUN1 := hid hrun1
    have HRUN2 := hid hrun2
    have x1 := cell_later hB1 x
    have xx := (H.out.c2.later hB2)
    have xx1 := xx.1
    have xx2 := xx.2
    clear hc hL hcellsV hcf hrun1 hO1 hG1 hB1 hrun2 hO2 hG2 hB2 hlen e1 xx e hso
    have hwr : IntKind.i64.wrap ((i : Int) + 1) = (i : Int) + 1 := by rw [IntKind.wrap_i64]; omega
    go_upto_region 6 with (first | (at_builtin; refine wpList_append_known rfl _ _ 125 rfl _ _ rfl rfl _ w1 HRUN1.out ?_))
    go_wp2_with (first | (at_builtin; refine wpList_append_known rfl _ _ 125 rfl _ _ rfl rfl _ w2 HRUN2.out ?_))
    go_ret
    refine .inr ⟨i, HI.out, HE.out, rfl, a2, c2, (fun k => if w.heap.size ≤ k ∧ k < w2.heap.size then 2 else col k), ?_, ?_, But.setCell (S := (· = r)) (But.of HB2.out) (p := ⟨r, 2, none⟩) (show r = r from rfl) _⟩
    · have := H.out.relist (V' := V.take i ++ V.drop (i + 1)) (a' := a2) (cap' := c2) (w' := w2) (fun p hp => ?_) ?_ (by rw [HLN.out]; have := HL.out; omega) HB2.out (by rw [HLN.out]; exact HO2.out) HBLK.out
      · rw [HLN.out] at this
        exact this
      · rcases List.mem_append.1 hp with h1 | h1
        · exact List.mem_of_mem_take h1
        · exact List.mem_of_mem_drop h1
      · rw [← List.eraseIdx_eq_take_drop_succ]
        exact List.Pairwise.sublist (List.eraseIdx_sublist V i) H.out.rise
    · intro j hj
      by_cases e : w.heap.size ≤ j ∧ j < w2.heap.size
      · exact .inr e.1
      · simp only [if_neg e] at hj
        exact .inl hj
  · go_wp2
    go_ret
    exact .inl ⟨hn, rfl, rfl⟩
end Go.Proofs.YtnjadfgfpebkdaaGreat.S
namespace Go.Proofs.YtnjadfgfpebkdaaGreat.S
open Go.RowKit
set_option linter.unusedVariables false
set_option linter.unusedSimpArgs false

def setV (id : Int) (off : Nat) (D : List Nat) (p : Int × List Nat) : Int × List Nat := if p.1 = id then (p.1, putL p.2 D off) else p
theorem setV_id (id : Int) (off : Nat) (D : List Nat) (p : Int × List Nat) : (setV id off D p).1 = p.1 := by unfold setV; split <;> rfl
theorem putL_small {L D : List Nat} {off : Nat} (hL : ∀ x ∈ L, x < 256) (hD : ∀ x ∈ D, x < 256) : ∀ x ∈ putL L D off, x < 256 := by
  intro x hx
  unfold putL at hx
  rcases List.mem_append.1 hx with h | h
  · rcases List.mem_append.1 h with h | h
    · exact hL x (List.mem_of_mem_take h)
    · exact hD x h
  · exact hL x (List.mem_of_mem_drop h)
theorem idx_uniq {V : List (Int × List Nat)} (hr : V.Pairwise (fun a b => a.1 < b.1)) {i : Nat} (hi : i < V.length) {p : Int × List Nat} (hp : p ∈ V) (e : p.1 = V[i].1) : p = V[i] := by
  obtain ⟨j, hj, rfl⟩ := List.getElem_of_mem hp
  rw [List.pairwise_iff_getElem] at hr
  have : i = j := by
    rcases Nat.lt_trichotomy i j with h2 | h2 | h2
    · have := hr i j hi hj h2; omega
    · exact h2
    · have := hr j i hj hi h2; omega
  subst this
  rfl
theorem Rf.write {w w' : World} {base r room n : Nat} {nx : Int} {V : List (Int × List Nat)} {G : Int → Nat} {a : Option Addr} {cap : Nat} {col : Nat → Nat} (h : Rf w base r room n nx V G a cap col) {i off : Nat} {D : List Nat} (hi : i < V.length) (hle : off + D.length ≤ V[i].2.length) (hD : ∀ x ∈ D, x < 256)
    (hb : But (· = G V[i].1) w w') (hC : Cel w' (G V[i].1) V[i].2.length (wf V[i].2 D off D.length)) : Rf w' base r room n nx (V.map (setV V[i].1 off D)) G a cap col := by
  have hG := h.k3 _ (List.getElem_mem hi)
  have hpos := (h.ids _ (List.getElem_mem hi)).1
  have hne : ∀ k c, col k = c → c < 10 → ¬ k = G V[i].1 := fun k c hk hc e => by rw [e, hG] at hk; omega
  have hnr : ¬ r = G V[i].1 := hne r 1 h.k1 (by decide)
  have hmem : ∀ q ∈ V.map (setV V[i].1 off D), ∃ p ∈ V, q = setV V[i].1 off D p := fun q hq => by
    obtain ⟨p, hp, e⟩ := List.mem_map.1 hq
    exact ⟨p, hp, e.symm⟩
  have hdl : ∀ p ∈ V, (setV V[i].1 off D p).2.length = p.2.length := fun p hp => by
    unfold setV
    split
    · rename_i e
      rw [idx_uniq h.rise hi hp e]
      exact putL_length hle
    · rfl
  have hr : rcs G (V.map (setV V[i].1 off D)) = rcs G V := by
    have key : ∀ (W : List (Int × List Nat)), (∀ p ∈ W, p ∈ V) → rcs G (W.map (setV V[i].1 off D)) = rcs G W := by
      intro W hW
      induction W with
      | nil => rfl
      | cons p q ih =>
        simp only [List.map_cons, rcs, setV_id]
        rw [hdl p (hW p (by simp)), ih (fun x hx => hW x (by simp [hx]))]
    exact key V (fun p hp => hp)
  refine { h with
    c0 := h.c0.but hb hnr
    c1 := h.c1.but hb hnr
    c2 := ?_
    c3 := h.c3.but hb hnr
    own := ?_
    cel := fun q hq => ?_
    k3 := fun q hq => ?_
    lt := fun k hk => Nat.lt_of_lt_of_le (h.lt k hk) hb.size
    hb := Nat.le_trans h.hb hb.size
    rise := ?_
    ids := fun q hq => ?_
    rm := ?_
    big := fun q hq => ?_
    small := fun q hq => ?_ }
  · rw [List.length_map]
    exact h.c2.but hb hnr
  · rw [List.length_map, hr]
    exact own_but hb h.own (fun k hk => hne k 2 (h.k2 k (Blk.of.1 hk)) (by decide))
  · obtain ⟨p, hp, rfl⟩ := hmem q hq
    rw [setV_id, hdl p hp]
    by_cases e : p.1 = V[i].1
    · have e2 := idx_uniq h.rise hi hp e
      have e3 : (setV V[i].1 off D p).2 = putL V[i].2 D off := by unfold setV; rw [if_pos e, e2]
      rw [e3, e, e2, ← wf_all hle]
      exact hC
    · have e3 : (setV V[i].1 off D p).2 = p.2 := by unfold setV; rw [if_neg e]
      rw [e3]
      refine (h.cel p hp).but hb (fun e4 => e ?_)
      have h5 := h.k3 p hp
      rw [e4, hG] at h5
      have := (h.ids p hp).1
      omega
  · obtain ⟨p, hp, rfl⟩ := hmem q hq
    rw [setV_id]
    exact h.k3 p hp
  · rw [List.pairwise_map]
    simp only [setV_id]
    exact h.rise
  · obtain ⟨p, hp, rfl⟩ := hmem q hq
    rw [setV_id]
    exact h.ids p hp
  · rw [List.length_map]
    exact h.rm
  · obtain ⟨p, hp, rfl⟩ := hmem q hq
    rw [hdl p hp]
    exact h.big p hp
  · obtain ⟨p, hp, rfl⟩ := hmem q hq
    unfold setV
    split
    · exact putL_small (h.small p hp) hD
    · exact h.small p hp
def WvRel (w : World) (g d off m : Nat) (l D : List Nat) (v : Value) (w' : World) : Prop := ∃ i : Nat, v = .int .i64 (i : Int) ∧ i ≤ m ∧ Cel w' g d (wf l D off i) ∧ But (· = g) w w'
def wrV (V : List (Int × List Nat)) (id off : Int) (D : List Nat) : List (Int × List Nat) := if rvE V id off (D.length : Int) = 0 then V.map (setV id off.toNat D) else V
set_option maxRecDepth 100000 in
set_option maxHeartbeats 2000000 in
theorem rwrite_any (base r room n : Nat) (nx : Int) (V : List (Int × List Nat)) (G : Int → Nat) (a : Option Addr) (cap : Nat) (col : Nat → Nat) (id off : Int) (da : Option Addr) (m cd : Nat) (D : List Nat) (w : World) (h : Rf w base r room n nx V G a cap col) (ho : i64ok off) (hR : Row w da m cd (u8s D)) (hD : ∀ x ∈ D, x < 256) (hm : m ≤ 140737488355328) (hap : 0 < m → ∀ j, Blk da j → col j = 0) :
    Calls Tryz.prog 35 #[.pointer (some ⟨r, 0, none⟩), .int .i64 id, .int .i64 off, .slice da m cd] w fun e w' => e = .returned (.int .i64 (rvE V id off (m : Int))) ∧ Rf w' base r room n nx (wrV V id off D) G a cap col ∧ But (fun j => col j ≠ 0) w w' := by
  have x := h.c2.1
  have H := hid h
  have hcap := h.cap_
  have hDl : D.length = m := by have := hR.len; rwa [u8s_length] at this
  have HDL := hid hDl
  have HR := hid hR
  have HD := hid hD
  have HAP := hid hap
  clear h hR hD hap hDl
  go_enter Tryz.func35, Tryz.ntmps35
  go_upto_region 2 with (first | (go_at_call 76; refine (rat_any base r room n nx V G a cap col id _ H.out).mono ?_; rintro e w1 ⟨v, rfl, hI, hw⟩; obtain rfl := hw.symm))
  rcases hI with ⟨i, hi, rfl, e⟩ | ⟨rfl, hn⟩
  · have hd : decide ((i : Int) < 0) = false := decide_eq_false (by omega)
    obtain ⟨ga, rfl, hc⟩ := H.out.cells (by omega)
    have y := (hc i hi).2
    have HAV := hid (atV_some H.out.rise hi e)
    have HCel := hid (H.out.cel _ (List.getElem_mem hi))
    have hbig := H.out.big _ (List.getElem_mem hi)
    have HK3 := hid (H.out.k3 _ (List.getElem_mem hi))
    have HE := hid e
    obtain ⟨l, hll⟩ : ∃ l, l = V[i].2 := ⟨_, rfl⟩
    obtain ⟨g, hgg⟩ : ∃ g, g = G V[i].1 := ⟨_, rfl⟩
    rw [← hll, ← hgg] at y HCel
    rw [← hll] at HAV hbig
    rw [← hgg] at HK3
    have HLL := hid hll
    have HGG := hid hgg
    have HI := hid hi
    obtain ⟨L, hL⟩ : ∃ L, L = V.length := ⟨_, rfl⟩
    rw [← hL] at x hcap
    have hiL : i < L := by omega
    obtain ⟨d, hdd⟩ : ∃ d, d = l.length := ⟨_, rfl⟩
    rw [← hdd] at y hbig
    have HDD := hid hdd
    have hga : ga ≠ g := by
      intro e2
      have h1 := H.out.k2 ga ⟨_, rfl, rfl⟩
      rw [e2, HK3.out] at h1
      omega
    have hrg : r ≠ g := by
      intro e2
      have h1 := H.out.k1
      rw [e2, HK3.out] at h1
      omega
    clear hc hll hgg hL e hdd
    by_cases hr : 0 ≤ off ∧ 0 ≤ (m : Int) ∧ (m : Int) ≤ 1024 ∧ off + (m : Int) ≤ (d : Int)
    · have hwd : decide (0 ≤ off ∧ 0 ≤ (m : Int) ∧ (m : Int) ≤ 1024 ∧ off + (m : Int) ≤ (d : Int)) = true := decide_eq_true hr
      obtain ⟨o2, rfl⟩ : ∃ q : Nat, off = (q : Int) := ⟨off.toNat, by omega⟩
      have HV : Hid (rvE V id (o2 : Int) (m : Int) = 0) := hid (by
        unfold rvE
        rw [HAV.out]
        rw [HDD.out] at hr
        simp only [if_pos hr])
      have hod : o2 + m ≤ d := by omega
      clear hr
      go_upto_region 7 with (first
        | (go_at_call 77; refine (within_any (o2 : Int) (m : Int) d _ hbig ho).mono ?_; rintro e w1 ⟨rfl, hw⟩; obtain rfl := hw.symm; rw [hwd]))
      go_loopw [10] (WvRel w g d o2 m l D) (fun v _ => m - ivN v)
      case atStart =>
        refine ⟨0, rfl, Nat.zero_le _, ?_, But.refl _ _⟩
        rw [wf_zero, HDD.out]
        exact HCel.out
      case round =>
        obtain ⟨j, rfl, hj, hC, hB⟩ := hrel
        have HC := hid hC
        have HB := hid hB
        clear hC hB
        by_cases hlt : j < m
        · have hdj : decide ((j : Int) < (m : Int)) = true := decide_eq_true (by omega)
          have x1 := cell_but HB.out x hrg
          have y1 := cell_but HB.out y hga
          obtain ⟨bd, od, rfl, hcd⟩ := HR.out.plain (by omega)
          have hbd : bd ≠ g := by
            intro e2
            have h1 := HAP.out (by omega) bd ⟨_, rfl, rfl⟩
            rw [e2, HK3.out] at h1
            omega
          have hjD : j < D.length := by have := HDL.out; omega
          have z0 := cell_but HB.out (hcd j _ (u8s_get D j hjD)) hbd
          obtain ⟨vj, hvj⟩ : ∃ vj, vj = D[j] := ⟨_, rfl⟩
          rw [← hvj] at z0
          have q0 := HC.out (o2 + j) (by omega)
          obtain ⟨old, hold⟩ : ∃ old, old = wf l D o2 j (o2 + j) := ⟨_, rfl⟩
          rw [← hold] at q0
          have q1 := q0.1
          have q2 := q0.2
          have HN : Hid (Cel (wr.setCell ⟨g, o2 + j, none⟩ (.int .u8 ((vj : Nat) : Int))) g d (wf l D o2 (j + 1))) := hid (HC.out.set (by omega) (fun t _ => by
            rw [wf_next]
            congr 1
            rw [hvj, List.getD_eq_getElem?_getD, List.getElem?_eq_getElem hjD]
            rfl))
          have HNB : Hid (But (· = g) w (wr.setCell ⟨g, o2 + j, none⟩ (.int .u8 ((vj : Nat) : Int)))) := hid (But.setCell (S := (· = g)) HB.out (p := ⟨g, o2 + j, none⟩) (show g = g from rfl) _)
          have hs1 : (0 : Int) ≤ (o2 : Int) + (j : Int) := by omega
          have hs2 : (o2 : Int) + (j : Int) < (d : Int) := by omega
          have hs3 : o2 + j < d := by omega
          clear hcd hvj hold q0
          go_upto_region 9 with fail
          go_region
          go_wp2
          exact ⟨⟨j + 1, rfl, by omega, HN.out.but (S := fun _ => False) (But.of (Below.refl _ _).drew) (fun h => h), HNB.out.call (Below.refl _ _).drew⟩, by simp [ivN]; omega⟩
        · obtain rfl : j = m := by omega
          have hdj : decide ((j : Int) < (j : Int)) = false := by simp
          go_wp2
          go_ret
          refine ⟨ret_int HV.out.symm, ?_, HB.out.mono (fun k e => by rw [e, HK3.out]; omega)⟩
          unfold wrV
          rw [HDL.out, HV.out, if_pos rfl, Int.toNat_natCast, ← HE.out]
          have hC := HC.out
          have hB := HB.out
          rw [← HDL.out, HDD.out, HLL.out, HGG.out] at hC
          rw [HGG.out] at hB
          exact H.out.write HI.out (by rw [HDL.out]; have h1 := HDD.out; rw [HLL.out] at h1; omega) HD.out hB hC
    · have hwd : decide (0 ≤ off ∧ 0 ≤ (m : Int) ∧ (m : Int) ≤ 1024 ∧ off + (m : Int) ≤ (d : Int)) = false := decide_eq_false hr
      have HV : Hid (rvE V id off (m : Int) = 5) := hid (by
        unfold rvE
        rw [HAV.out]
        rw [HDD.out] at hr
        simp only [if_neg hr])
      clear hr
      go_wp2_with (first
        | (go_at_call 77; refine (within_any off (m : Int) d _ hbig ho).mono ?_; rintro e w1 ⟨rfl, hw⟩; obtain rfl := hw.symm; rw [hwd]))
      go_ret
      refine ⟨ret_int HV.out.symm, ?_, But.refl _ _⟩
      unfold wrV
      rw [HDL.out, HV.out, if_neg (by decide)]
      exact H.out
  · have HAV := hid (atV_none hn)
    have e2 : rvE V id off (m : Int) = 20 := by unfold rvE; rw [HAV.out]
    have HE2 := hid e2
    clear e2
    go_wp2
    go_ret
    refine ⟨ret_int HE2.out.symm, ?_, But.refl _ _⟩
    unfold wrV
    rw [HDL.out, HE2.out, if_neg (by decide)]
    exact H.out
end Go.Proofs.YtnjadfgfpebkdaaGreat.S
namespace Go.Proofs.YtnjadfgfpebkdaaGreat.S
open Go.RowKit
set_option linter.unusedVariables false
set_option linter.unusedSimpArgs false

set_option maxRecDepth 100000 in
set_option maxHeartbeats 1000000 in
theorem rcreate_bad (base r room n : Nat) (nx : Int) (V : List (Int × List Nat)) (G : Int → Nat) (a : Option Addr) (cap : Nat) (col : Nat → Nat) (size E : Int) (w : World) (h : Rf w base r room n nx V G a cap col) (hE : mayV room n nx V size = E) (hn : E ≠ 0) :
    Calls Tryz.prog 37 #[.pointer (some ⟨r, 0, none⟩), .int .i64 size] w fun e w' => e = .returned (.tuple #[.int .i64 0, .int .i64 E]) ∧ Below w.heap.size w w' := by
  have H := hid h
  have HE := hid hE
  clear h hE
  go_enter Tryz.func37, Tryz.ntmps37
  go_wp2_with (first | (go_at_call 81; refine (rmay_any base r room n nx V G a cap col size _ H.out).mono ?_; rintro e w1 ⟨rfl, d, hw⟩; rw [HE.out]; obtain rfl := hw))
  exact bodyPost_ret (v := .tuple #[.int .i64 0, .int .i64 E]) (by simp [results, Tryz.results37, go_sem]) rfl ⟨rfl, below_drewN (Below.refl _ _) _⟩
/-- What is to be seen of the objects. -/
def vw (Os : List Ob) : List (Int × List Nat) := Os.map fun o => (o.id, o.data)
theorem vw_length (Os : List Ob) : (vw Os).length = Os.length := by simp [vw]
theorem vw_used (Os : List Ob) : usedV (vw Os) = usedN Os := by simp [usedV, usedN, vw, Function.comp_def]
theorem vw_at (Os : List Ob) (id : Int) : atV (vw Os) id = (at? Os id).map Ob.data := by
  unfold atV at? vw
  rw [List.find?_map]
  simp [Function.comp_def]
theorem vw_rdE (Os : List Ob) (id off k : Int) : rvE (vw Os) id off k = rdE Os id off k := by
  unfold rvE rdE
  rw [vw_at]
  cases at? Os id <;> rfl
theorem vw_rdL (Os : List Ob) (id off k : Int) : rvL (vw Os) id off k = rdL Os id off k := by
  unfold rvL rdL
  rw [vw_at]
  cases at? Os id <;> rfl
theorem vw_append (Os : List Ob) (o : Ob) : vw (Os ++ [o]) = vw Os ++ [(o.id, o.data)] := by simp [vw]
theorem vw_setO (Os : List Ob) (id : Int) (off : Nat) (D : List Nat) : vw (Os.map (setO id off D)) = (vw Os).map (setV id off D) := by
  unfold vw
  rw [List.map_map, List.map_map]
  refine List.map_congr_left fun o _ => ?_
  simp only [Function.comp, setO, setV]
  split <;> rfl
theorem vw_wrO (Os : List Ob) (id off : Int) (D : List Nat) : vw (wrO Os id off D) = wrV (vw Os) id off D := by
  unfold wrO wrV
  rw [vw_rdE]
  split
  · exact vw_setO _ _ _ _
  · rfl
theorem vw_may {w : World} {z : Sid} {nx : Int} {Os : List Ob} (h : St w z nx Os) (size : Int) : mayV z.room z.n nx (vw Os) size = mayE z.room z.n nx Os size := by
  have hu := h.used
  unfold mayV mayE
  rw [vw_length, vw_used]
  by_cases h1 : size < 0 ∨ 4096 < size
  · rw [if_pos h1, if_pos h1]
  · rw [if_neg h1, if_neg h1]
    by_cases h2 : z.room ≤ Os.length ∨ 4611686018427387904 < nx
    · rw [if_pos h2, if_pos h2]
    · rw [if_neg h2, if_neg h2]
      by_cases h3 : z.n - usedN Os < needN size.toNat
      · rw [if_pos h3, if_pos (by omega)]
      · rw [if_neg h3, if_neg (by omega)]
theorem vw_none {Os : List Ob} {id : Int} : (∀ p ∈ vw Os, p.1 ≠ id) ↔ at? Os id = none := by
  unfold vw at?
  rw [List.find?_eq_none]
  simp
theorem vw_without {Os : List Ob} (hr : Os.Pairwise (fun a b => a.id < b.id)) {i : Nat} (hi : i < (vw Os).length) {id : Int} (e : (vw Os)[i].1 = id) : vw (without id Os) = (vw Os).take i ++ (vw Os).drop (i + 1) ∧ ∃ o, at? Os id = some o := by
  have hi2 : i < Os.length := by rwa [vw_length] at hi
  have e2 : Os[i].id = id := by rw [← e]; simp [vw]
  rw [← e2, without_at hr hi2]
  refine ⟨by simp [vw, List.map_take, List.map_drop], _, at_at hr hi2⟩
theorem vw_ids (Os : List Ob) : (vw Os).map Prod.fst = Os.map Ob.id := by simp [vw, Function.comp_def]
theorem rb_append {Os : List Ob} {o : Ob} {k : Nat} (h : Rb (Os ++ [o]) k) : Rb Os k ∨ Blk o.adr k := by
  obtain ⟨p, hp, hk⟩ := h
  rcases List.mem_append.1 hp with h1 | h1
  · exact .inl ⟨p, h1, hk⟩
  · simp only [List.mem_singleton] at h1
    subst h1
    exact .inr hk
end Go.Proofs.YtnjadfgfpebkdaaGreat.S
