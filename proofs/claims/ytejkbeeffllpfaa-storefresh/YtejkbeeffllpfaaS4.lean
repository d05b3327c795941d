import Derived.Test.YtejkbeeffllpfaaS3
namespace Go.Proofs.Ytejkbeeffllpfaa
open Go.RowKit
set_option linter.unusedVariables false
set_option linter.unusedSimpArgs false

/-- Places that may be written over. -/
def Spot (w : World) (b n : Nat) : Prop := ∀ j, j < n → ∃ v, Lies w ⟨b, j, none⟩ v
theorem Spot.put {w : World} {b n k : Nat} {u : Value} (h : Spot w b n) (hk : k < n) : Spot (w.setCell ⟨b, k, none⟩ u) b n := fun j hj => by
  by_cases e : j = k
  · subst e
    obtain ⟨v, hv⟩ := h j hj
    exact ⟨u, hv.put⟩
  · obtain ⟨v, hv⟩ := h j hj
    exact ⟨v, hv.other (fun e2 => e (by have := congrArg Addr.off e2; simp at this; omega))⟩
theorem Own.spot {w : World} {base : Nat} {e : TypeId} {a : Option Addr} {n cap : Nat} {L : List Value} (h : Own w base e a n cap L) (hn : 0 < n) : ∃ g, a = some ⟨g, 0, none⟩ ∧ base ≤ g ∧ g < w.heap.size ∧ Spot w g n := by
  have hl := h.len
  cases a with
  | none => have := h.read.none_ rfl; omega
  | some x =>
    obtain ⟨g, rfl, _⟩ := h.lies rfl (List.getElem?_eq_getElem (show 0 < L.length by omega))
    refine ⟨g, rfl, h.blk g ⟨_, rfl, rfl⟩, h.lt g ⟨_, rfl, rfl⟩, fun j hj => ?_⟩
    obtain ⟨g2, e2, h2⟩ := h.lies rfl (List.getElem?_eq_getElem (show j < L.length by omega))
    cases e2
    exact ⟨_, h2⟩
def OvRel (w3 : World) (g m : Nat) (v : Value) (w' : World) : Prop := ∃ i : Nat, v = .int .i64 (i : Int) ∧ i ≤ m ∧ Spot w' g m ∧ But (· = g) w3 w'
set_option maxRecDepth 100000 in
set_option maxHeartbeats 2000000 in
theorem play_2 (base : Nat) (z : Sid) (r : Nat) (M : Nat → Prop) (o : Opx) (w : World) (hP : Pr w base z r M) (hO : OpxIn w o) (hk : o.kd = 2) :
    Calls Try.prog 16 #[.agg #[.pointer (some ⟨z.s, 0, none⟩), .pointer (some ⟨r, 0, none⟩)], .agg (opxCells o)] w fun e w' => e = .returned (.bool true) ∧ Left w base z r M w' := by
  obtain ⟨nx, Os, G, a, cap, col, hD, hM, hMb⟩ := hP
  obtain ⟨W, hW, hDW, hBx, hBW, hne⟩ := play_start (M := M) hD o
  have HD := hid hD
  have HM := hid hM
  have HMb := hid hMb
  have HDW := hid hDW
  have HBW := hid hBW
  have s0 := hBx.s0
  have c0 := hBx.c0
  have c2 := hBx.c2
  have c3 := hBx.c3
  have c4 := hBx.c4
  rw [hk] at c0 hW
  have HBx := hid hBx
  have hi := hO.hid
  have hof := hO.hof
  unfold opxCells
  rw [hk]
  obtain ⟨Q, hQ⟩ : ∃ Q, Q = rdL Os o.id o.of o.nn := ⟨_, rfl⟩
  obtain ⟨E, hE⟩ : ∃ E, E = rdE Os o.id o.of o.nn := ⟨_, rfl⟩
  have HQ := hid hQ
  have HE := hid hE
  have HQ2 : Hid (rvL (vw Os) o.id o.of o.nn = Q) := hid (by rw [vw_rdL, hQ])
  have HE2 : Hid (rvE (vw Os) o.id o.of o.nn = E) := hid (by rw [vw_rdE, hE])
  have HSM : Hid (∀ x ∈ Q, x < 256) := hid (by rw [hQ]; exact rdL_small hD.s _ _ _)
  obtain ⟨m, hm⟩ : ∃ m, m = Q.length := ⟨_, rfl⟩
  have HMM := hid hm
  have hm1 : m ≤ 1024 := by
    rw [hm, hQ]
    unfold rdL
    split
    · simp
    · split
      · rw [List.length_take]; omega
      · simp
  clear hD hM hMb hDW hBx hBW hne hQ hE hm
  go_enter Try.func16, Try.ntmps16
  go_upto_region 10 with fail
  rw [← hW]
  clear hW
  go_upto_region 11 with (first | (go_at_call 10; refine (st_read z nx Os o.id o.of o.nn _ HDW.out.s hi).mono ?_; rintro e w2 ⟨b, c, rfl, O2, B2⟩; rw [← HQ.out, ← HE.out, ← HMM.out]; rw [← HQ.out, ← HMM.out] at O2))
  have HBx2 := hid (HBx.out.later B2)
  have s1 := HBx2.out.s1
  have d2 := HBx2.out.c2
  have d3 := HBx2.out.c3
  have d4 := HBx2.out.c4
  have HD2 := hid (HDW.out.later B2)
  have HB2 := hid B2
  have HO2 := hid O2
  clear B2 O2 s0 c0 c2 c3 c4
  go_upto_region 12 with (first | (go_at_call 18; refine (rread_any base r z.room z.n nx (vw Os) G a cap col o.id o.of o.nn _ HD2.out.q hof).mono ?_; rintro e w3 ⟨b3, c3, rfl, O3, B3⟩; rw [HQ2.out, HE2.out, ← HMM.out]; rw [HQ2.out, ← HMM.out] at O3))
  have HB3 := hid B3
  have HO3 := hid O3
  have HD3 := hid (HD2.out.later B3)
  have HO23 := hid (HO2.out.later B3)
  have HBA := hid (below_call (below_call HBW.out HB2.out) HB3.out)
  clear B3 O3 s1 d2 d3 d4
  go_upto_region 14 with (first | (go_at_call 11; refine (same_any _ _ m m c c3 Q Q _ HO23.out.read HO3.out.read HSM.out HSM.out).mono ?_; rintro e w4 ⟨rfl, hw⟩; obtain rfl := hw.symm; rw [decide_eq_true rfl]))
  by_cases h0 : 0 < m
  · obtain ⟨g, rfl, hg1, hg2, hsp⟩ := HO23.out.spot h0
    have HSP := hid hsp
    clear hsp
    go_loopw [15] (OvRel w3 g m) (fun v _ => m - ivN v)
    case atStart => exact ⟨0, rfl, Nat.zero_le _, HSP.out, But.refl _ _⟩
    case round =>
      obtain ⟨i, rfl, hi2, hs, hB⟩ := hrel
      have HSI := hid hs
      have HBI := hid hB
      clear hs hB
      by_cases hlt : i < m
      · have hd : decide ((i : Int) < (m : Int)) = true := decide_eq_true (by omega)
        obtain ⟨v, hv⟩ := HSI.out i hlt
        have q1 := hv.1
        have q2 := hv.2
        have hcm : m ≤ c := HO23.out.read.cap_
        clear hv
        go_wp2
        exact ⟨⟨i + 1, rfl, by omega, HSI.out.put hlt, But.setCell (S := (· = g)) HBI.out (p := ⟨g, i, none⟩) (show g = g from rfl) _⟩, by simp [ivN]; omega⟩
      · obtain rfl : i = m := by omega
        have hd : decide ((i : Int) < (i : Int)) = false := by simp
        go_wp2
        go_ret
        have hng : ∀ j, Own2 z Os col j → ¬ j = g := fun j hj e => by have := HDW.out.lt j hj; omega
        have hbl : Below w.heap.size w wr := But.below HBA.out HBI.out (fun j e => by have := HBW.out.size; omega)
        exact ⟨rfl, left_of HD.out HM.out HMb.out (HD3.out.but HBI.out hng) (fun j hj => .inl hj) (But.of hbl)⟩
  · obtain rfl : m = 0 := by omega
    go_loopw [15] (fun k w' => k = .int .i64 0 ∧ w3 = w') (fun _ _ => 0)
    case atStart => exact ⟨rfl, rfl⟩
    case round =>
      obtain ⟨rfl, rfl⟩ := hrel
      go_wp2
      go_ret
      exact ⟨rfl, left_of HD.out HM.out HMb.out HD3.out (fun j hj => .inl hj) (But.of HBA.out)⟩
/-- A copy with marks behind it. -/
def marksL : List Nat := (List.range 300).map fun i => i % 256
def LeRel (w : World) (D : List Nat) (n : Nat) (v3 v4 : Value) (w' : World) : Prop := ∃ (i : Nat) (b : Option Addr) (c : Nat), v3 = .slice b (n + i) c ∧ v4 = .int .i64 (i : Int) ∧ i ≤ 300 ∧ Own w' w.heap.size 5 b (n + i) c (u8s (D ++ (List.range i).map fun i => i % 256)) ∧ Below w.heap.size w w'
set_option maxRecDepth 100000 in
set_option maxHeartbeats 1000000 in
theorem lent_any (a : Option Addr) (n cap : Nat) (D : List Nat) (w : World) (h : Row w a n cap (u8s D)) (hr : n + 300 ≤ 140737488355328) :
    Calls Try.prog 39 #[.slice a n cap] w fun e w' => ∃ b c, e = .returned (.slice b (n + 300) c) ∧ Own w' w.heap.size 5 b (n + 300) c (u8s (D ++ marksL)) ∧ Below w.heap.size w w' := by
  obtain ⟨b1, c1, w1, hrun, hO1, hG1⟩ := append_bytes (Own.nil w w.heap.size 5) h (Nat.le_refl _) (by omega)
  rw [Nat.zero_add] at hrun hO1
  have HRUN := hid hrun
  have HO1 := hid hO1
  have HB1 := hid (Gr.below (Own.nil w w.heap.size 5) hG1 (Nat.le_refl _))
  clear hrun hO1 hG1 h
  go_enter Try.func39, Try.ntmps39
  go_upto_region 4 with (first | (at_builtin; refine wpList_append_known rfl _ _ 30 rfl _ _ rfl rfl _ w1 HRUN.out ?_))
  go_loopw [3, 4] (LeRel w D n) (fun _ v _ => 300 - ivN v)
  case atStart => exact ⟨0, b1, c1, rfl, rfl, by omega, by simpa using HO1.out, HB1.out⟩
  case round =>
    obtain ⟨i, b, c, rfl, rfl, hi, hO, hB⟩ := hrel
    have HO := hid hO
    have HB := hid hB
    clear hO hB
    by_cases hlt : i < 300
    · have hd : decide ((i : Int) < 300) = true := decide_eq_true (by omega)
      have hwr : IntKind.u8.wrap (i : Int) = ((i % 256 : Nat) : Int) := by rw [IntKind.wrap_u8]; omega
      obtain ⟨b', c', w2, hrun, hO2, hG⟩ := append_bytes (HO.out.alloc (Obj.cells #[Value.int .u8 ((i % 256 : Nat) : Int)] 5)) (Row.single wr 5 (.int .u8 ((i % 256 : Nat) : Int)) rfl) (by have := HB.out.size; simp; omega) (by omega)
      have HRUN := hid hrun
      have HB2 : Hid (Below w.heap.size w w2) := hid ((HB.out.alloc HB.out.size _).trans (Gr.below (HO.out.alloc _) hG (by have := HB.out.size; simp; omega)))
      have HO2 : Hid (Own w2 w.heap.size 5 b' (n + (i + 1)) c' (u8s (D ++ (List.range (i + 1)).map fun i => i % 256))) := hid (by
        have e : u8s (D ++ (List.range (i + 1)).map fun i => i % 256) = u8s (D ++ (List.range i).map fun i => i % 256) ++ [Value.int .u8 ((i % 256 : Nat) : Int)] := by
          rw [List.range_succ, List.map_append, ← List.append_assoc, u8s_append]
          rfl
        rw [e, ← Nat.add_assoc]
        exact hO2)
      clear hrun hO2 hG
      go_wp2_with (first | (at_builtin; refine wpList_append_known rfl _ _ 30 rfl _ _ rfl rfl _ w2 HRUN.out ?_))
      exact ⟨⟨i + 1, b', c', rfl, rfl, by omega, HO2.out, HB2.out⟩, by simp [ivN]; omega⟩
    · obtain rfl : i = 300 := by omega
      go_wp2
      go_ret
      exact ⟨b, c, rfl, HO.out, HB.out⟩
end Go.Proofs.Ytejkbeeffllpfaa
