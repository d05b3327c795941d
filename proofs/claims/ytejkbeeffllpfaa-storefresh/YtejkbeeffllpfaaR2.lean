import Derived.Test.YtejkbeeffllpfaaR1
namespace Go.Proofs.Ytejkbeeffllpfaa
open Go.RowKit
set_option linter.unusedVariables false

/-- The row of a number. -/
def atV (V : List (Int × List Nat)) (id : Int) : Option (List Nat) := (V.find? fun p => decide (p.1 = id)).map Prod.snd
theorem atV_some {V : List (Int × List Nat)} {id : Int} (hr : V.Pairwise (fun a b => a.1 < b.1)) {i : Nat} (hi : i < V.length) (e : V[i].1 = id) : atV V id = some V[i].2 := by
  unfold atV
  cases h : V.find? (fun p => decide (p.1 = id)) with
  | none =>
    have := List.find?_eq_none.1 h _ (List.getElem_mem hi)
    simp [e] at this
  | some p =>
    have h1 := List.find?_some h
    simp only [decide_eq_true_eq] at h1
    obtain ⟨j, hj, rfl⟩ := List.getElem_of_mem (List.mem_of_find?_eq_some h)
    rw [List.pairwise_iff_getElem] at hr
    have : i = j := by
      rcases Nat.lt_trichotomy i j with h2 | h2 | h2
      · have := hr i j hi hj h2; omega
      · exact h2
      · have := hr j i hj hi h2; omega
    subst this
    rfl
theorem atV_none {V : List (Int × List Nat)} {id : Int} (h : ∀ p ∈ V, p.1 ≠ id) : atV V id = none := by
  unfold atV
  rw [List.find?_eq_none.2 (fun p hp => by simp [h p hp])]
  rfl
set_option maxRecDepth 100000 in
set_option maxHeartbeats 2000000 in
theorem within_any (off k : Int) (size : Nat) (w : World) (hs : size ≤ 4096) (ho : i64ok off) :
    Calls Try.prog 44 #[.int .i64 off, .int .i64 k, .int .i64 (size : Int)] w fun e w' => e = .returned (.bool (decide (0 ≤ off ∧ 0 ≤ k ∧ k ≤ 1024 ∧ off + k ≤ (size : Int)))) ∧ w' = w := by
  unfold i64ok at ho
  obtain ⟨d, hd⟩ : ∃ d, d = decide (0 ≤ off ∧ 0 ≤ k ∧ k ≤ 1024 ∧ off + k ≤ (size : Int)) := ⟨_, rfl⟩
  rw [← hd]
  have HD := hid hd
  clear hd
  by_cases h1 : off ≥ 0
  · have hd1 : decide (off ≥ 0) = true := decide_eq_true h1
    have hwr : IntKind.i64.wrap ((size : Int) - off) = (size : Int) - off := by rw [IntKind.wrap_i64]; omega
    by_cases h2 : k ≥ 0
    · have hd2 : decide (k ≥ 0) = true := decide_eq_true h2
      by_cases h3 : k ≤ 1024
      · have hd3 : decide (k ≤ 1024) = true := decide_eq_true h3
        by_cases h4 : off ≤ (size : Int)
        · have hd4 : decide (off ≤ (size : Int)) = true := decide_eq_true h4
          clear ho
          go_enter Try.func44, Try.ntmps44
          go_wp2
          go_ret
          refine ⟨ret_bool ?_, rfl⟩
          rw [HD.out]
          congr 1
          exact propext ⟨fun h => ⟨h1, h2, h3, by omega⟩, fun h => by omega⟩
        · have hd4 : decide (off ≤ (size : Int)) = false := decide_eq_false h4
          clear ho
          go_enter Try.func44, Try.ntmps44
          go_wp2
          go_ret
          exact ⟨ret_bool (by rw [HD.out]; exact (decide_eq_false (by omega)).symm), rfl⟩
      · have hd3 : decide (k ≤ 1024) = false := decide_eq_false h3
        clear ho
        go_enter Try.func44, Try.ntmps44
        go_wp2
        go_ret
        exact ⟨ret_bool (by rw [HD.out]; exact (decide_eq_false (by omega)).symm), rfl⟩
    · have hd2 : decide (k ≥ 0) = false := decide_eq_false h2
      clear ho
      go_enter Try.func44, Try.ntmps44
      go_wp2
      go_ret
      exact ⟨ret_bool (by rw [HD.out]; exact (decide_eq_false (by omega)).symm), rfl⟩
  · have hd1 : decide (off ≥ 0) = false := decide_eq_false h1
    clear ho
    go_enter Try.func44, Try.ntmps44
    go_wp2
    go_ret
    exact ⟨ret_bool (by rw [HD.out]; exact (decide_eq_false (by omega)).symm), rfl⟩
/-- What May answers. -/
def mayV (room n : Nat) (nx : Int) (V : List (Int × List Nat)) (size : Int) : Int :=
  if size < 0 ∨ 4096 < size then 6 else if room ≤ V.length ∨ 4611686018427387904 < nx then 7 else if (n : Int) - (usedV V : Int) < (needN size.toNat : Int) then 8 else 0
set_option maxRecDepth 100000 in
set_option maxHeartbeats 2000000 in
theorem rmay_any (base r room n : Nat) (nx : Int) (V : List (Int × List Nat)) (G : Int → Nat) (a : Option Addr) (cap : Nat) (col : Nat → Nat) (size : Int) (w : World) (h : Rf w base r room n nx V G a cap col) :
    Calls Try.prog 42 #[.pointer (some ⟨r, 0, none⟩), .int .i64 size] w fun e w' => e = .returned (.int .i64 (mayV room n nx V size)) ∧ ∃ d, w' = w.drewN d := by
  obtain ⟨E, hE⟩ : ∃ E, E = mayV room n nx V size := ⟨_, rfl⟩
  rw [← hE]
  have HE := hid hE
  have H := hid h
  clear hE
  by_cases h1 : size < 0
  · have hd1 : decide (size < 0) = true := decide_eq_true h1
    clear h
    go_enter Try.func42, Try.ntmps42
    go_wp2
    go_ret
    exact ⟨ret_int (by rw [HE.out, mayV, if_pos (.inl h1)]), 0, rfl⟩
  have hd1 : decide (size < 0) = false := decide_eq_false h1
  by_cases h2 : size > 4096
  · have hd2 : decide (size > 4096) = true := decide_eq_true h2
    clear h
    go_enter Try.func42, Try.ntmps42
    go_wp2
    go_ret
    exact ⟨ret_int (by rw [HE.out, mayV, if_pos (.inr h2)]), 0, rfl⟩
  have hd2 : decide (size > 4096) = false := decide_eq_false h2
  obtain ⟨k, rfl⟩ : ∃ k : Nat, size = (k : Int) := ⟨size.toNat, by omega⟩
  have hk : k ≤ 4096 := by omega
  have e1 : mayV room n nx V (k : Int) = if room ≤ V.length ∨ 4611686018427387904 < nx then 7 else if (n : Int) - (usedV V : Int) < (needN k : Int) then 8 else 0 := by
    rw [mayV, if_neg (by omega), Int.toNat_natCast]
  rw [e1] at HE
  have x0 := h.c0.1
  have x2 := h.c2.1
  have x3 := h.c3.1
  obtain ⟨len, hl⟩ : ∃ len, len = V.length := ⟨_, rfl⟩
  rw [← hl] at x2
  have HL := hid hl
  clear h e1 h1 h2 hl
  by_cases h3 : (len : Int) ≥ (room : Int)
  · have hd3 : decide ((len : Int) ≥ (room : Int)) = true := decide_eq_true h3
    have hd3b : decide (room ≤ len) = true := decide_eq_true (by omega)
    go_enter Try.func42, Try.ntmps42
    go_wp2
    go_quiet (fail)
    go_wp2
    go_ret
    exact ⟨ret_int (by rw [HE.out, if_pos (.inl (by have := HL.out; omega))]), _, rfl⟩
  have hd3 : decide ((len : Int) ≥ (room : Int)) = false := decide_eq_false h3
  have hd3b : decide (room ≤ len) = false := decide_eq_false (by omega)
  have hd3c : ¬ room ≤ len := by omega
  by_cases h4 : nx > 4611686018427387904
  · have hd4 : decide (nx > 4611686018427387904) = true := decide_eq_true h4
    go_enter Try.func42, Try.ntmps42
    go_wp2
    go_quiet (fail)
    go_wp2
    go_ret
    exact ⟨ret_int (by rw [HE.out, if_pos (.inr h4)]), _, rfl⟩
  have hd4 : decide (nx > 4611686018427387904) = false := decide_eq_false h4
  have e2 : ¬ (room ≤ V.length ∨ 4611686018427387904 < nx) := by
    have := HL.out
    omega
  rw [if_neg e2] at HE
  clear e2
  have HF : Hid (∀ d, Rf (w.drewN d) base r room n nx V G a cap col) := hid (fun d => H.out.later (below_drewN (Below.refl _ _) d))
  obtain ⟨fr, hfr⟩ : ∃ fr : Int, fr = (n : Int) - (usedV V : Int) := ⟨_, rfl⟩
  rw [← hfr] at HE
  have HFR := hid hfr
  clear hfr
  obtain ⟨nq, hnq⟩ : ∃ nq, nq = needN k := ⟨_, rfl⟩
  have hnq1 : ((k : Int) + 63) / 64 = (nq : Int) := by rw [hnq]; unfold needN; omega
  have hnq2 : nq ≤ 64 := by rw [hnq]; unfold needN; omega
  rw [← hnq] at HE
  clear hnq
  by_cases h5 : (nq : Int) > fr
  · have hd5 : decide ((nq : Int) > fr) = true := decide_eq_true h5
    go_enter Try.func42, Try.ntmps42
    go_wp2
    go_quiet (fail)
    go_wp2_with (first
      | (go_at_call 47; refine (rfree_any base r room n nx V G a cap col _ (HF.out _)).mono ?_; rintro e w1 ⟨rfl, hw⟩; obtain rfl := hw.symm; rw [← HFR.out]))
    go_ret
    exact ⟨ret_int (by rw [HE.out, if_pos (by omega)]), _, rfl⟩
  · have hd5 : decide ((nq : Int) > fr) = false := decide_eq_false h5
    go_enter Try.func42, Try.ntmps42
    go_wp2
    go_quiet (fail)
    go_wp2_with (first
      | (go_at_call 47; refine (rfree_any base r room n nx V G a cap col _ (HF.out _)).mono ?_; rintro e w1 ⟨rfl, hw⟩; obtain rfl := hw.symm; rw [← HFR.out]))
    go_ret
    exact ⟨ret_int (by rw [HE.out, if_neg (by omega)]), _, rfl⟩
/-- What Size answers. -/
def szV : Option (List Nat) → Value
  | some l => .tuple #[.int .i64 (l.length : Int), .bool true]
  | none => .tuple #[.int .i64 0, .bool false]
set_option maxRecDepth 100000 in
set_option maxHeartbeats 1000000 in
theorem rsize_any (base r room n : Nat) (nx : Int) (V : List (Int × List Nat)) (G : Int → Nat) (a : Option Addr) (cap : Nat) (col : Nat → Nat) (id : Int) (w : World) (h : Rf w base r room n nx V G a cap col) :
    Calls Try.prog 46 #[.pointer (some ⟨r, 0, none⟩), .int .i64 id] w fun e w' => e = .returned (szV (atV V id)) ∧ w' = w := by
  have x := h.c2.1
  have H := hid h
  have hcap := h.cap_
  clear h
  go_enter Try.func46, Try.ntmps46
  go_upto_region 2 with (first | (go_at_call 43; refine (rat_any base r room n nx V G a cap col id _ H.out).mono ?_; rintro e w1 ⟨v, rfl, hI, hw⟩; obtain rfl := hw.symm))
  rcases hI with ⟨i, hi, rfl, e⟩ | ⟨rfl, hn⟩
  · have hd : decide ((i : Int) < 0) = false := decide_eq_false (by omega)
    obtain ⟨ga, rfl, hc⟩ := H.out.cells (by omega)
    have y := (hc i hi).2
    have HAV := hid (atV_some H.out.rise hi e)
    obtain ⟨d, hdd⟩ : ∃ d, d = V[i].2.length := ⟨_, rfl⟩
    obtain ⟨L, hL⟩ : ∃ L, L = V.length := ⟨_, rfl⟩
    have HD := hid hdd
    rw [← hdd] at y
    rw [← hL] at x hcap
    have hiL : i < L := by omega
    clear hc hdd hL e
    go_wp2
    exact bodyPost_ret (v := .tuple #[.int .i64 (d : Int), .bool true]) (by simp [results, Try.results46, go_sem]) rfl ⟨by rw [HAV.out, HD.out]; rfl, rfl⟩
  · have HAV := hid (atV_none hn)
    go_wp2
    exact bodyPost_ret (v := .tuple #[.int .i64 0, .bool false]) (by simp [results, Try.results46, go_sem]) rfl ⟨by rw [HAV.out]; rfl, rfl⟩
def IdRel (V : List (Int × List Nat)) (L : Nat) (w : World) (v3 v4 : Value) (w' : World) : Prop := ∃ (i : Nat) (b : Option Addr) (c : Nat), v3 = .slice b i c ∧ v4 = .int .i64 (i : Int) ∧ i ≤ L ∧ Own w' w.heap.size 3 b i c (ints ((V.take i).map Prod.fst)) ∧ Below w.heap.size w w'
set_option maxRecDepth 100000 in
set_option maxHeartbeats 1000000 in
theorem rids_any (base r room n : Nat) (nx : Int) (V : List (Int × List Nat)) (G : Int → Nat) (a : Option Addr) (cap : Nat) (col : Nat → Nat) (w : World) (h : Rf w base r room n nx V G a cap col) :
    Calls Try.prog 17 #[.pointer (some ⟨r, 0, none⟩)] w fun e w' => ∃ b c, e = .returned (.slice b V.length c) ∧ Own w' w.heap.size 3 b V.length c (ints (V.map Prod.fst)) ∧ Below w.heap.size w w' := by
  have H := hid h
  have hrm := h.rm
  have hcap := h.cap_
  clear h
  obtain ⟨L, hL⟩ : ∃ L, L = V.length := ⟨_, rfl⟩
  rw [← hL] at hrm hcap
  have HL := hid hL
  clear hL
  go_enter Try.func17, Try.ntmps17
  go_wp2
  go_loopw [3, 4] (IdRel V L w) (fun _ v _ => L - ivN v)
  case atStart => exact ⟨0, none, 0, rfl, rfl, Nat.zero_le _, Own.nil _ _ _, Below.refl _ _⟩
  case round =>
    obtain ⟨i, b, c, rfl, rfl, hi, hO, hB⟩ := hrel
    have HO := hid hO
    have HB := hid hB
    have HR := hid (H.out.later hB)
    have x := HR.out.c2.1
    rw [← HL.out] at x
    clear hO hB
    by_cases hlt : i < L
    · have hd : decide ((i : Int) < (L : Int)) = true := decide_eq_true (by omega)
      have hil : i < V.length := by have := HL.out; omega
      obtain ⟨ga, rfl, hc⟩ := HR.out.cells (by omega)
      have y := (hc i hil).1
      obtain ⟨vi, hvi⟩ : ∃ vi, vi = V[i].1 := ⟨_, rfl⟩
      rw [← hvi] at y
      have HVI := hid hvi
      clear hc hvi
      obtain ⟨b', c', w2, hrun, hO2, hG⟩ := append_ints (HO.out.alloc (Obj.cells #[Value.int .i64 vi] 3)) (Row.single wr 3 (.int .i64 vi) rfl) (by have := HB.out.size; simp; omega) (by omega)
      have HRUN := hid hrun
      have HB2 : Hid (Below w.heap.size w w2) := hid ((HB.out.alloc HB.out.size _).trans (Gr.below (HO.out.alloc _) hG (by have := HB.out.size; simp; omega)))
      have HO2 : Hid (Own w2 w.heap.size 3 b' (i + 1) c' (ints ((V.take (i + 1)).map Prod.fst))) := hid (by
        rw [List.take_add_one, List.getElem?_eq_getElem hil, List.map_append, ints_append]
        simp only [Option.toList_some, List.map_cons, List.map_nil]
        rw [← HVI.out]
        exact hO2)
      clear hrun hO2 hG
      go_wp2_with (first | (at_builtin; refine wpList_append_known rfl _ _ 28 rfl _ _ rfl rfl _ w2 HRUN.out ?_))
      exact ⟨⟨i + 1, b', c', rfl, rfl, by omega, HO2.out, HB2.out⟩, by simp [ivN]; omega⟩
    · obtain rfl : i = L := by omega
      have hd : decide ((i : Int) < (i : Int)) = false := by simp
      go_wp2
      go_ret
      have hl := HL.out
      subst hl
      rw [List.take_length] at HO
      exact ⟨b, c, rfl, HO.out, HB.out⟩
/-- What a read answers. -/
def rvE (V : List (Int × List Nat)) (id off k : Int) : Int := match atV V id with
  | none => 20
  | some l => if 0 ≤ off ∧ 0 ≤ k ∧ k ≤ 1024 ∧ off + k ≤ (l.length : Int) then 0 else 5
def rvL (V : List (Int × List Nat)) (id off k : Int) : List Nat := match atV V id with
  | none => []
  | some l => if 0 ≤ off ∧ 0 ≤ k ∧ k ≤ 1024 ∧ off + k ≤ (l.length : Int) then (l.drop off.toNat).take k.toNat else []
theorem slice_mid (a : Option Addr) (r cap lo m : Nat) (h1 : lo + m ≤ cap) :
    ∃ a', (∀ W : World, (Instr.sliceAt 30 (.slice a r cap) (some (.int .i64 (lo : Int))) (some (.int .i64 ((lo : Int) + (m : Int)))) none).run Try.prog W = .ok (.slice a' m (cap - lo)) W) ∧ (cap = lo ∧ a' = a ∨ a' = a.map (·.add lo)) := by
  have h : ∀ W : World, (Instr.sliceAt 30 (.slice a r cap) (some (.int .i64 (lo : Int))) (some (.int .i64 ((lo : Int) + (m : Int)))) none).run Try.prog W = .ok (sliced a lo (lo + m) cap 1) W := fun W => by
    rw [run_sliceAt_slice W 30 _ _ _ _ und30, run_slice_lh W 30 a r cap und30 .i64 .i64 (lo : Int) ((lo : Int) + (m : Int)) (by omega) (by omega) (by omega), size_el30]
    have e : ((lo : Int) + (m : Int)).toNat = lo + m := by omega
    simp [e]
  by_cases hc : cap = lo
  · exact ⟨a, fun W => by rw [h W]; simp [sliced, hc], .inl ⟨hc, rfl⟩⟩
  · exact ⟨a.map (·.add lo), fun W => by rw [h W]; simp [sliced, hc], .inr rfl⟩
set_option maxRecDepth 100000 in
set_option maxHeartbeats 2000000 in
theorem rread_any (base r room n : Nat) (nx : Int) (V : List (Int × List Nat)) (G : Int → Nat) (a : Option Addr) (cap : Nat) (col : Nat → Nat) (id off k : Int) (w : World) (h : Rf w base r room n nx V G a cap col) (ho : i64ok off) :
    Calls Try.prog 18 #[.pointer (some ⟨r, 0, none⟩), .int .i64 id, .int .i64 off, .int .i64 k] w fun e w' => ∃ b c, e = .returned (.tuple #[.slice b (rvL V id off k).length c, .int .i64 (rvE V id off k)]) ∧ Own w' w.heap.size 5 b (rvL V id off k).length c (u8s (rvL V id off k)) ∧ Below w.heap.size w w' := by
  have x := h.c2.1
  have H := hid h
  have hcap := h.cap_
  clear h
  go_enter Try.func18, Try.ntmps18
  go_upto_region 2 with (first | (go_at_call 43; refine (rat_any base r room n nx V G a cap col id _ H.out).mono ?_; rintro e w1 ⟨v, rfl, hI, hw⟩; obtain rfl := hw.symm))
  rcases hI with ⟨i, hi, rfl, e⟩ | ⟨rfl, hn⟩
  · have hd : decide ((i : Int) < 0) = false := decide_eq_false (by omega)
    obtain ⟨ga, rfl, hc⟩ := H.out.cells (by omega)
    have y := (hc i hi).2
    have HAV := hid (atV_some H.out.rise hi e)
    have HCel := hid (H.out.cel _ (List.getElem_mem hi))
    have hbig := H.out.big _ (List.getElem_mem hi)
    obtain ⟨l, hll⟩ : ∃ l, l = V[i].2 := ⟨_, rfl⟩
    obtain ⟨g, hgg⟩ : ∃ g, g = G V[i].1 := ⟨_, rfl⟩
    rw [← hll, ← hgg] at y HCel
    rw [← hll] at HAV hbig
    obtain ⟨L, hL⟩ : ∃ L, L = V.length := ⟨_, rfl⟩
    rw [← hL] at x hcap
    have hiL : i < L := by omega
    obtain ⟨d, hdd⟩ : ∃ d, d = l.length := ⟨_, rfl⟩
    rw [← hdd] at y hbig
    have HD := hid hdd
    clear hc hll hgg hL e hdd
    by_cases hr : 0 ≤ off ∧ 0 ≤ k ∧ k ≤ 1024 ∧ off + k ≤ (d : Int)
    · have hwd : decide (0 ≤ off ∧ 0 ≤ k ∧ k ≤ 1024 ∧ off + k ≤ (d : Int)) = true := decide_eq_true hr
      obtain ⟨o2, rfl⟩ : ∃ q : Nat, off = (q : Int) := ⟨off.toNat, by omega⟩
      obtain ⟨k2, rfl⟩ : ∃ q : Nat, k = (q : Int) := ⟨k.toNat, by omega⟩
      have HV : Hid (rvL V id (o2 : Int) (k2 : Int) = (l.drop o2).take k2 ∧ rvE V id (o2 : Int) (k2 : Int) = 0) := hid (by
        unfold rvL rvE
        rw [HAV.out]
        rw [HD.out] at hr
        constructor
        · simp only [if_pos hr, Int.toNat_natCast]
        · simp only [if_pos hr])
      have hrow : Row w (some ⟨g, 0, none⟩) d d (u8s l) := by
        have := Cel.row HCel.out d (by rw [HD.out]; exact Nat.le_refl _)
        rwa [← HD.out] at this
      obtain ⟨a2, hcut, ha2⟩ := slice_mid (some ⟨g, 0, none⟩) d d o2 k2 (by omega)
      obtain ⟨hR2, _⟩ := hrow.from (f := o2) (by omega) ha2
      have hR3 := hR2.sub (m := k2) (c := d - o2) (by omega) (by omega) (fun e => (hR2.none_ e).2)
      rw [u8s_drop, u8s_take] at hR3
      obtain ⟨b', c', w2, hrun, hO2, hG⟩ := append_bytes (Own.nil w w.heap.size 5) hR3 (Nat.le_refl _) (by omega)
      rw [Nat.zero_add] at hrun hO2
      have HRUN := hid hrun
      have HO2 := hid hO2
      have HB2 := hid (Gr.below (Own.nil w w.heap.size 5) hG (Nat.le_refl _))
      have hcut2 := hcut w
      obtain ⟨hr1, hr2, hr3, hr4⟩ := hr
      clear hrow hR2 hR3 hrun hO2 hG ha2 hcut
      go_wp2_with (first
        | (go_at_call 44; refine (within_any (o2 : Int) (k2 : Int) d _ hbig ho).mono ?_; rintro e w1 ⟨rfl, hw⟩; obtain rfl := hw.symm; rw [hwd])
        | (at_builtin; refine wpList_append_known rfl _ _ 30 rfl _ _ rfl rfl _ w2 HRUN.out ?_))
      have hl : (rvL V id (o2 : Int) (k2 : Int)).length = k2 := by
        rw [HV.out.1, List.length_take, List.length_drop]
        have := HD.out
        omega
      refine bodyPost_ret (v := .tuple #[.slice b' k2 c', .int .i64 0]) (by simp [results, Try.results18, go_sem]) rfl ⟨b', c', by rw [hl, HV.out.2], ?_, HB2.out⟩
      rw [hl, HV.out.1]
      exact HO2.out
    · have hwd : decide (0 ≤ off ∧ 0 ≤ k ∧ k ≤ 1024 ∧ off + k ≤ (d : Int)) = false := decide_eq_false hr
      have HV : Hid (rvL V id off k = [] ∧ rvE V id off k = 5) := hid (by
        unfold rvL rvE
        rw [HAV.out]
        rw [HD.out] at hr
        constructor
        · simp only [if_neg hr]
        · simp only [if_neg hr])
      clear hr
      go_wp2_with (first
        | (go_at_call 44; refine (within_any off k d _ hbig ho).mono ?_; rintro e w1 ⟨rfl, hw⟩; obtain rfl := hw.symm; rw [hwd]))
      refine bodyPost_ret (v := .tuple #[.slice none 0 0, .int .i64 5]) (by simp [results, Try.results18, go_sem]) rfl ⟨none, 0, by rw [HV.out.1, HV.out.2]; rfl, ?_, Below.refl _ _⟩
      rw [HV.out.1]
      exact Own.nil _ _ _
  · have HAV := hid (atV_none hn)
    go_wp2
    have e1 : rvL V id off k = [] := by unfold rvL; rw [HAV.out]
    have e2 : rvE V id off k = 20 := by unfold rvE; rw [HAV.out]
    refine bodyPost_ret (v := .tuple #[.slice none 0 0, .int .i64 20]) (by simp [results, Try.results18, go_sem]) rfl ⟨none, 0, by rw [e1, e2]; rfl, ?_, Below.refl _ _⟩
    rw [e1]
    exact Own.nil _ _ _
end Go.Proofs.Ytejkbeeffllpfaa
