import Derived.Test.YtejkbeeffllpfaaR5
namespace Go.Proofs.Ytejkbeeffllpfaa
open Go.RowKit
set_option linter.unusedVariables false
set_option linter.unusedSimpArgs false

def setV (id : Int) (off : Nat) (D : List Nat) (p : Int × List Nat) : Int × List Nat := if p.1 = id then (p.1, putL p.2 D off) else p
theorem setV_id (id : Int) (off : Nat) (D : List Nat) (p : Int × List Nat) : (setV id off D p).1 = p.1 := by unfold setV; split <;> rfl
theorem putL_small {L D : List Nat} {off : Nat} (hL : ∀ x ∈ L, x < 256) (hD : ∀ x ∈ D, x < 256) : ∀ x ∈ putL L D off, x < 256 := by
  intro x hx
  unfold putL at hx
  rcases List.mem_append.1 hx with h | h
  · rcases List.mem_append.1 h with h | h
    · exact hL x (List.mem_of_mem_take h)
    · exact hD x h
  · exact hL x (List.mem_of_mem_drop h)
theorem idx_uniq {V : List (Int × List Nat)} (hr : V.Pairwise (fun a b => a.1 < b.1)) {i : Nat} (hi : i < V.length) {p : Int × List Nat} (hp : p ∈ V) (e : p.1 = V[i].1) : p = V[i] := by
  obtain ⟨j, hj, rfl⟩ := List.getElem_of_mem hp
  rw [List.pairwise_iff_getElem] at hr
  have : i = j := by
    rcases Nat.lt_trichotomy i j with h2 | h2 | h2
    · have := hr i j hi hj h2; omega
    · exact h2
    · have := hr j i hj hi h2; omega
  subst this
  rfl
theorem Rf.write {w w' : World} {base r room n : Nat} {nx : Int} {V : List (Int × List Nat)} {G : Int → Nat} {a : Option Addr} {cap : Nat} {col : Nat → Nat} (h : Rf w base r room n nx V G a cap col) {i off : Nat} {D : List Nat} (hi : i < V.length) (hle : off + D.length ≤ V[i].2.length) (hD : ∀ x ∈ D, x < 256)
    (hb : But (· = G V[i].1) w w') (hC : Cel w' (G V[i].1) V[i].2.length (wf V[i].2 D off D.length)) : Rf w' base r room n nx (V.map (setV V[i].1 off D)) G a cap col := by
  have hG := h.k3 _ (List.getElem_mem hi)
  have hpos := (h.ids _ (List.getElem_mem hi)).1
  have hne : ∀ k c, col k = c → c < 10 → ¬ k = G V[i].1 := fun k c hk hc e => by rw [e, hG] at hk; omega
  have hnr : ¬ r = G V[i].1 := hne r 1 h.k1 (by decide)
  have hmem : ∀ q ∈ V.map (setV V[i].1 off D), ∃ p ∈ V, q = setV V[i].1 off D p := fun q hq => by
    obtain ⟨p, hp, e⟩ := List.mem_map.1 hq
    exact ⟨p, hp, e.symm⟩
  have hdl : ∀ p ∈ V, (setV V[i].1 off D p).2.length = p.2.length := fun p hp => by
    unfold setV
    split
    · rename_i e
      rw [idx_uniq h.rise hi hp e]
      exact putL_length hle
    · rfl
  have hr : rcs G (V.map (setV V[i].1 off D)) = rcs G V := by
    have key : ∀ (W : List (Int × List Nat)), (∀ p ∈ W, p ∈ V) → rcs G (W.map (setV V[i].1 off D)) = rcs G W := by
      intro W hW
      induction W with
      | nil => rfl
      | cons p q ih =>
        simp only [List.map_cons, rcs, setV_id]
        rw [hdl p (hW p (by simp)), ih (fun x hx => hW x (by simp [hx]))]
    exact key V (fun p hp => hp)
  refine { h with
    c0 := h.c0.but hb hnr
    c1 := h.c1.but hb hnr
    c2 := ?_
    c3 := h.c3.but hb hnr
    own := ?_
    cel := fun q hq => ?_
    k3 := fun q hq => ?_
    lt := fun k hk => Nat.lt_of_lt_of_le (h.lt k hk) hb.size
    hb := Nat.le_trans h.hb hb.size
    rise := ?_
    ids := fun q hq => ?_
    rm := ?_
    big := fun q hq => ?_
    small := fun q hq => ?_ }
  · rw [List.length_map]
    exact h.c2.but hb hnr
  · rw [List.length_map, hr]
    exact own_but hb h.own (fun k hk => hne k 2 (h.k2 k (Blk.of.1 hk)) (by decide))
  · obtain ⟨p, hp, rfl⟩ := hmem q hq
    rw [setV_id, hdl p hp]
    by_cases e : p.1 = V[i].1
    · have e2 := idx_uniq h.rise hi hp e
      have e3 : (setV V[i].1 off D p).2 = putL V[i].2 D off := by unfold setV; rw [if_pos e, e2]
      rw [e3, e, e2, ← wf_all hle]
      exact hC
    · have e3 : (setV V[i].1 off D p).2 = p.2 := by unfold setV; rw [if_neg e]
      rw [e3]
      refine (h.cel p hp).but hb (fun e4 => e ?_)
      have h5 := h.k3 p hp
      rw [e4, hG] at h5
      have := (h.ids p hp).1
      omega
  · obtain ⟨p, hp, rfl⟩ := hmem q hq
    rw [setV_id]
    exact h.k3 p hp
  · rw [List.pairwise_map]
    simp only [setV_id]
    exact h.rise
  · obtain ⟨p, hp, rfl⟩ := hmem q hq
    rw [setV_id]
    exact h.ids p hp
  · rw [List.length_map]
    exact h.rm
  · obtain ⟨p, hp, rfl⟩ := hmem q hq
    rw [hdl p hp]
    exact h.big p hp
  · obtain ⟨p, hp, rfl⟩ := hmem q hq
    unfold setV
    split
    · exact putL_small (h.small p hp) hD
    · exact h.small p hp
def WvRel (w : World) (g d off m : Nat) (l D : List Nat) (v : Value) (w' : World) : Prop := ∃ i : Nat, v = .int .i64 (i : Int) ∧ i ≤ m ∧ Cel w' g d (wf l D off i) ∧ But (· = g) w w'
def wrV (V : List (Int × List Nat)) (id off : Int) (D : List Nat) : List (Int × List Nat) := if rvE V id off (D.length : Int) = 0 then V.map (setV id off.toNat D) else V
set_option maxRecDepth 100000 in
set_option maxHeartbeats 2000000 in
theorem rwrite_any (base r room n : Nat) (nx : Int) (V : List (Int × List Nat)) (G : Int → Nat) (a : Option Addr) (cap : Nat) (col : Nat → Nat) (id off : Int) (da : Option Addr) (m cd : Nat) (D : List Nat) (w : World) (h : Rf w base r room n nx V G a cap col) (ho : i64ok off) (hR : Row w da m cd (u8s D)) (hD : ∀ x ∈ D, x < 256) (hm : m ≤ 140737488355328) (hap : 0 < m → ∀ j, Blk da j → col j = 0) :
    Calls Try.prog 38 #[.pointer (some ⟨r, 0, none⟩), .int .i64 id, .int .i64 off, .slice da m cd] w fun e w' => e = .returned (.int .i64 (rvE V id off (m : Int))) ∧ Rf w' base r room n nx (wrV V id off D) G a cap col ∧ But (fun j => col j ≠ 0) w w' := by
  have x := h.c2.1
  have H := hid h
  have hcap := h.cap_
  have hDl : D.length = m := by have := hR.len; rwa [u8s_length] at this
  have HDL := hid hDl
  have HR := hid hR
  have HD := hid hD
  have HAP := hid hap
  clear h hR hD hap hDl
  go_enter Try.func38, Try.ntmps38
  go_upto_region 2 with (first | (go_at_call 43; refine (rat_any base r room n nx V G a cap col id _ H.out).mono ?_; rintro e w1 ⟨v, rfl, hI, hw⟩; obtain rfl := hw.symm))
  rcases hI with ⟨i, hi, rfl, e⟩ | ⟨rfl, hn⟩
  · have hd : decide ((i : Int) < 0) = false := decide_eq_false (by omega)
    obtain ⟨ga, rfl, hc⟩ := H.out.cells (by omega)
    have y := (hc i hi).2
    have HAV := hid (atV_some H.out.rise hi e)
    have HCel := hid (H.out.cel _ (List.getElem_mem hi))
    have hbig := H.out.big _ (List.getElem_mem hi)
    have HK3 := hid (H.out.k3 _ (List.getElem_mem hi))
    have HE := hid e
    obtain ⟨l, hll⟩ : ∃ l, l = V[i].2 := ⟨_, rfl⟩
    obtain ⟨g, hgg⟩ : ∃ g, g = G V[i].1 := ⟨_, rfl⟩
    rw [← hll, ← hgg] at y HCel
    rw [← hll] at HAV hbig
    rw [← hgg] at HK3
    have HLL := hid hll
    have HGG := hid hgg
    have HI := hid hi
    obtain ⟨L, hL⟩ : ∃ L, L = V.length := ⟨_, rfl⟩
    rw [← hL] at x hcap
    have hiL : i < L := by omega
    obtain ⟨d, hdd⟩ : ∃ d, d = l.length := ⟨_, rfl⟩
    rw [← hdd] at y hbig
    have HDD := hid hdd
    have hga : ga ≠ g := by
      intro e2
      have h1 := H.out.k2 ga ⟨_, rfl, rfl⟩
      rw [e2, HK3.out] at h1
      omega
    have hrg : r ≠ g := by
      intro e2
      have h1 := H.out.k1
      rw [e2, HK3.out] at h1
      omega
    clear hc hll hgg hL e hdd
    by_cases hr : 0 ≤ off ∧ 0 ≤ (m : Int) ∧ (m : Int) ≤ 1024 ∧ off + (m : Int) ≤ (d : Int)
    · have hwd : decide (0 ≤ off ∧ 0 ≤ (m : Int) ∧ (m : Int) ≤ 1024 ∧ off + (m : Int) ≤ (d : Int)) = true := decide_eq_true hr
      obtain ⟨o2, rfl⟩ : ∃ q : Nat, off = (q : Int) := ⟨off.toNat, by omega⟩
      have HV : Hid (rvE V id (o2 : Int) (m : Int) = 0) := hid (by
        unfold rvE
        rw [HAV.out]
        rw [HDD.out] at hr
        simp only [if_pos hr])
      have hod : o2 + m ≤ d := by omega
      clear hr
      go_upto_region 7 with (first
        | (go_at_call 44; refine (within_any (o2 : Int) (m : Int) d _ hbig ho).mono ?_; rintro e w1 ⟨rfl, hw⟩; obtain rfl := hw.symm; rw [hwd]))
      go_loopw [10] (WvRel w g d o2 m l D) (fun v _ => m - ivN v)
      case atStart =>
        refine ⟨0, rfl, Nat.zero_le _, ?_, But.refl _ _⟩
        rw [wf_zero, HDD.out]
        exact HCel.out
      case round =>
        obtain ⟨j, rfl, hj, hC, hB⟩ := hrel
        have HC := hid hC
        have HB := hid hB
        clear hC hB
        by_cases hlt : j < m
        · have hdj : decide ((j : Int) < (m : Int)) = true := decide_eq_true (by omega)
          have x1 := cell_but HB.out x hrg
          have y1 := cell_but HB.out y hga
          obtain ⟨bd, od, rfl, hcd⟩ := HR.out.plain (by omega)
          have hbd : bd ≠ g := by
            intro e2
            have h1 := HAP.out (by omega) bd ⟨_, rfl, rfl⟩
            rw [e2, HK3.out] at h1
            omega
          have hjD : j < D.length := by have := HDL.out; omega
          have z0 := cell_but HB.out (hcd j _ (u8s_get D j hjD)) hbd
          obtain ⟨vj, hvj⟩ : ∃ vj, vj = D[j] := ⟨_, rfl⟩
          rw [← hvj] at z0
          have q0 := HC.out (o2 + j) (by omega)
          obtain ⟨old, hold⟩ : ∃ old, old = wf l D o2 j (o2 + j) := ⟨_, rfl⟩
          rw [← hold] at q0
          have q1 := q0.1
          have q2 := q0.2
          have HN : Hid (Cel (wr.setCell ⟨g, o2 + j, none⟩ (.int .u8 ((vj : Nat) : Int))) g d (wf l D o2 (j + 1))) := hid (HC.out.set (by omega) (fun t _ => by
            rw [wf_next]
            congr 1
            rw [hvj, List.getD_eq_getElem?_getD, List.getElem?_eq_getElem hjD]
            rfl))
          have HNB : Hid (But (· = g) w (wr.setCell ⟨g, o2 + j, none⟩ (.int .u8 ((vj : Nat) : Int)))) := hid (But.setCell (S := (· = g)) HB.out (p := ⟨g, o2 + j, none⟩) (show g = g from rfl) _)
          have hs1 : (0 : Int) ≤ (o2 : Int) + (j : Int) := by omega
          have hs2 : (o2 : Int) + (j : Int) < (d : Int) := by omega
          have hs3 : o2 + j < d := by omega
          clear hcd hvj hold q0
          go_upto_region 9 with fail
          go_region
          go_wp2
          exact ⟨⟨j + 1, rfl, by omega, HN.out.but (S := fun _ => False) (But.of (Below.refl _ _).drew) (fun h => h), HNB.out.call (Below.refl _ _).drew⟩, by simp [ivN]; omega⟩
        · obtain rfl : j = m := by omega
          have hdj : decide ((j : Int) < (j : Int)) = false := by simp
          go_wp2
          go_ret
          refine ⟨ret_int HV.out.symm, ?_, HB.out.mono (fun k e => by rw [e, HK3.out]; omega)⟩
          unfold wrV
          rw [HDL.out, HV.out, if_pos rfl, Int.toNat_natCast, ← HE.out]
          have hC := HC.out
          have hB := HB.out
          rw [← HDL.out, HDD.out, HLL.out, HGG.out] at hC
          rw [HGG.out] at hB
          exact H.out.write HI.out (by rw [HDL.out]; have h1 := HDD.out; rw [HLL.out] at h1; omega) HD.out hB hC
    · have hwd : decide (0 ≤ off ∧ 0 ≤ (m : Int) ∧ (m : Int) ≤ 1024 ∧ off + (m : Int) ≤ (d : Int)) = false := decide_eq_false hr
      have HV : Hid (rvE V id off (m : Int) = 5) := hid (by
        unfold rvE
        rw [HAV.out]
        rw [HDD.out] at hr
        simp only [if_neg hr])
      clear hr
      go_wp2_with (first
        | (go_at_call 44; refine (within_any off (m : Int) d _ hbig ho).mono ?_; rintro e w1 ⟨rfl, hw⟩; obtain rfl := hw.symm; rw [hwd]))
      go_ret
      refine ⟨ret_int HV.out.symm, ?_, But.refl _ _⟩
      unfold wrV
      rw [HDL.out, HV.out, if_neg (by decide)]
      exact H.out
  · have HAV := hid (atV_none hn)
    have e2 : rvE V id off (m : Int) = 20 := by unfold rvE; rw [HAV.out]
    have HE2 := hid e2
    clear e2
    go_wp2
    go_ret
    refine ⟨ret_int HE2.out.symm, ?_, But.refl _ _⟩
    unfold wrV
    rw [HDL.out, HE2.out, if_neg (by decide)]
    exact H.out
end Go.Proofs.Ytejkbeeffllpfaa
