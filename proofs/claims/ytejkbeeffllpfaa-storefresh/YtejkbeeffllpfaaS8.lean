import Derived.Test.YtejkbeeffllpfaaS5
namespace Go.Proofs.Ytejkbeeffllpfaa
open Go.RowKit
set_option linter.unusedVariables false
set_option linter.unusedSimpArgs false

def ByRel (W : World) (L : Nat) (v : Value) (w' : World) : Prop := ∃ i : Nat, v = .int .i64 (i : Int) ∧ i ≤ L ∧ Below W.heap.size W w'
def ByIn (W : World) (v : Value) (w' : World) : Prop := ∃ k : Nat, v = .int .i64 (k : Int) ∧ k ≤ 5120 ∧ Below W.heap.size W w'
set_option maxRecDepth 100000 in
set_option maxHeartbeats 2000000 in
theorem bytes_any (base : Nat) (z : Sid) (r : Nat) (M : Nat → Prop) (w : World) (hP : Pr w base z r M) :
    Calls Try.prog 20 #[.agg #[.pointer (some ⟨z.s, 0, none⟩), .pointer (some ⟨r, 0, none⟩)]] w fun e w' => e = .returned (.bool true) ∧ Below w.heap.size w w' := by
  obtain ⟨nx, Os, G, a, cap, col, hD, hM, hMb⟩ := hP
  have s0 : (w.alloc (.cells #[.pointer (some ⟨z.s, 0, none⟩), .pointer (some ⟨r, 0, none⟩)] 46)).cell? ⟨w.heap.size, 0, none⟩ = some (.pointer (some ⟨z.s, 0, none⟩)) := (lies_new w #[.pointer (some ⟨z.s, 0, none⟩), .pointer (some ⟨r, 0, none⟩)] 46 0 _ rfl).1
  have s1 : (w.alloc (.cells #[.pointer (some ⟨z.s, 0, none⟩), .pointer (some ⟨r, 0, none⟩)] 46)).cell? ⟨w.heap.size, 1, none⟩ = some (.pointer (some ⟨r, 0, none⟩)) := (lies_new w #[.pointer (some ⟨z.s, 0, none⟩), .pointer (some ⟨r, 0, none⟩)] 46 1 _ rfl).1
  obtain ⟨W, hW⟩ : ∃ W, W = w.alloc (.cells #[.pointer (some ⟨z.s, 0, none⟩), .pointer (some ⟨r, 0, none⟩)] 46) := ⟨_, rfl⟩
  have hBW : Below w.heap.size w W := by rw [hW]; exact below1 _ _
  rw [← hW] at s0 s1
  have HDW := hid (hD.later hBW)
  have HBW := hid hBW
  have hcap := hD.q.cap_
  have hrm := hD.q.rm
  have HS0 := hid s0
  have HS1 := hid s1
  obtain ⟨L, hL⟩ : ∃ L, L = (vw Os).length := ⟨_, rfl⟩
  have HC2 : Hid (W.cell? ⟨r, 2, none⟩ = some (.slice a L cap)) := hid (by rw [hL]; exact HDW.out.q.c2.1)
  rw [← hL] at hcap hrm
  have HL := hid hL
  clear hD hM hMb hBW hL s0 s1
  go_enter Try.func20, Try.ntmps20
  go_upto_region 1 with fail
  rw [← hW]
  clear hW
  go_upto_region 2 with fail
  go_loopw [3] (ByRel W L) (fun v _ => L - ivN v)
  case atStart => exact ⟨0, rfl, Nat.zero_le _, Below.refl _ _⟩
  case round =>
    obtain ⟨i, rfl, hi, hB⟩ := hrel
    have HB := hid hB
    have x := cell_later hB HC2.out
    have s0 := cell_later hB HS0.out
    have s1 := cell_later hB HS1.out
    clear hB
    by_cases hlt : i < L
    · have hd : decide ((i : Int) < (L : Int)) = true := decide_eq_true (by omega)
      have hil : i < (vw Os).length := by have := HL.out; omega
      have hio : i < Os.length := by rwa [vw_length] at hil
      obtain ⟨ga, rfl, hc⟩ := HDW.out.q.cells (by omega)
      have y0 := cell_later HB.out (hc i hil).1
      have y1 := cell_later HB.out (hc i hil).2
      have HAT := hid (at_at HDW.out.s.rise hio)
      have hev : (vw Os)[i] = (Os[i].id, Os[i].data) := by simp [vw]
      have HCel := hid (HDW.out.q.cel _ (List.getElem_mem hil))
      have hbig := HDW.out.q.big _ (List.getElem_mem hil)
      have HSM := hid (HDW.out.q.small _ (List.getElem_mem hil))
      have hids := HDW.out.q.ids _ (List.getElem_mem hil)
      have hnx := HDW.out.q.nx1
      rw [hev] at y0 y1 HCel hbig HSM hids
      simp only at y0 y1 HCel hbig HSM hids
      obtain ⟨ob, hob⟩ : ∃ ob, ob = Os[i] := ⟨_, rfl⟩
      rw [← hob] at y0 y1 HCel hbig HSM hids HAT
      obtain ⟨id, hid_⟩ : ∃ id, id = ob.id := ⟨_, rfl⟩
      rw [← hid_] at y0 y1 HCel hids HAT
      obtain ⟨g, hg⟩ : ∃ g, g = G id := ⟨_, rfl⟩
      rw [← hg] at y1 HCel
      obtain ⟨d, hdd⟩ : ∃ d, d = ob.data.length := ⟨_, rfl⟩
      rw [← hdd] at y1 HCel hbig
      have HDD := hid hdd
      have hi64 : i64ok id := ⟨by omega, by omega⟩
      clear hc hev hob hid_ hg hdd
      go_upto_region 6 with fail
      obtain ⟨W2, hW2⟩ : ∃ W2, W2 = wr.alloc (.cells #[.int .i64 id, .slice (some ⟨g, 0, none⟩) d d] 92) := ⟨_, rfl⟩
      have c0 : W2.cell? ⟨wr.heap.size, 0, none⟩ = some (.int .i64 id) := by rw [hW2]; exact (lies_new wr #[.int .i64 id, .slice (some ⟨g, 0, none⟩) d d] 92 0 _ rfl).1
      have c1 : W2.cell? ⟨wr.heap.size, 1, none⟩ = some (.slice (some ⟨g, 0, none⟩) d d) := by rw [hW2]; exact (lies_new wr #[.int .i64 id, .slice (some ⟨g, 0, none⟩) d d] 92 1 _ rfl).1
      have b2 : Below wr.heap.size wr W2 := by rw [hW2]; exact below1 _ _
      have HB2 := hid (below_call HB.out b2)
      have HT0 := hid (cell_later b2 s0)
      have HC0 := hid c0
      have HC1 := hid c1
      rw [← hW2]
      clear hW2 c0 c1 b2 s0 s1 x y0 y1
      go_loopw [5] (ByIn W2) (fun v _ => 5120 - ivN v)
      case atStart => exact ⟨0, rfl, Nat.zero_le _, Below.refl _ _⟩
      case round =>
        obtain ⟨k, rfl, hk, hB3⟩ := hrel
        have HB3 := hid hB3
        have t0 := cell_later hB3 HT0.out
        have c0 := cell_later hB3 HC0.out
        have c1 := cell_later hB3 HC1.out
        have HD3 := hid (HDW.out.later (below_call HB2.out hB3))
        have HR3 := hid (((HCel.out).but (But.of (S := fun _ => False) (below_call HB2.out hB3)) (fun h => h)))
        clear hB3
        by_cases hkd : k < d
        · have hd2 : decide ((k : Int) < (d : Int)) = true := decide_eq_true (by omega)
          obtain ⟨n, hn⟩ : ∃ n : Nat, min (1024 : Int) ((d : Int) - (k : Int)) = (n : Int) := ⟨min 1024 (d - k), by omega⟩
          have hn1 : n ≤ 1024 ∧ k + n ≤ d := by omega
          obtain ⟨Q, hQ⟩ : ∃ Q, Q = (ob.data.drop k).take n := ⟨_, rfl⟩
          have HQ := hid hQ
          have HQL : Hid (Q.length = n) := hid (by rw [hQ, List.length_take, List.length_drop, ← HDD.out]; omega)
          have HV : Hid (rdL Os id (k : Int) (n : Int) = Q ∧ rdE Os id (k : Int) (n : Int) = 0) := hid (by
            have hc : 0 ≤ (k : Int) ∧ 0 ≤ (n : Int) ∧ (n : Int) ≤ 1024 ∧ (k : Int) + (n : Int) ≤ (ob.data.length : Int) := by
              have := HDD.out
              omega
            unfold rdL rdE
            rw [HAT.out]
            constructor
            · simp only [if_pos hc, Int.toNat_natCast]
              exact hQ.symm
            · simp only [if_pos hc])
          have HSQ : Hid (∀ x ∈ Q, x < 256) := hid (by rw [hQ]; exact fun x hx => HSM.out x (List.mem_of_mem_drop (List.mem_of_mem_take hx)))
          obtain ⟨a2, hcut, ha2⟩ := slice_mid (some ⟨g, 0, none⟩) d d k n (by omega)
          have HR4 : Hid (Row wr a2 n (d - k) (u8s Q)) := hid (by
            have hrow : Row wr (some ⟨g, 0, none⟩) d d (u8s ob.data) := by
              have h1 := HR3.out
              have h2 := HDD.out
              rw [h2] at h1 ⊢
              exact Cel.row h1 _ (Nat.le_refl _)
            obtain ⟨hR2, _⟩ := hrow.from (f := k) (by omega) ha2
            have hR3 := hR2.sub (m := n) (c := d - k) (by omega) (by omega) (fun e => (hR2.none_ e).2)
            rw [u8s_drop, u8s_take] at hR3
            rw [hQ]
            exact hR3)
          clear hQ ha2
          go_upto_region 9 with fail
          clear hn
          go_upto_region 10 with (first | (go_at_call 10; refine (st_read z nx Os id (k : Int) (n : Int) _ HD3.out.s hi64).mono ?_; rintro e w4 ⟨b4, c4, rfl, O4, B4⟩; rw [HV.out.1, HV.out.2, HQL.out]; rw [HV.out.1, HQL.out] at O4))
          have d1 := cell_later B4 c1
          have HB4 := hid (below_call HB3.out B4)
          have HO4 := hid O4
          have HR5 := hid (HR4.out.later B4)
          clear t0 c0 c1 B4 O4
          go_wp2_with (first | (go_at_call 11; refine (same_any _ _ n n c4 (d - k) Q Q _ HO4.out.read HR5.out HSQ.out HSQ.out).mono ?_; rintro e w5 ⟨rfl, hw⟩; obtain rfl := hw.symm; rw [decide_eq_true rfl]))
          exact ⟨⟨k + 1024, rfl, by omega, HB4.out⟩, by simp [ivN]; omega⟩
        · have hd2 : decide ((k : Int) < (d : Int)) = false := decide_eq_false (by omega)
          go_wp2
          exact ⟨⟨i + 1, rfl, by omega, below_call HB2.out HB3.out⟩, by simp [ivN]; omega⟩
    · obtain rfl : i = L := by omega
      have hd : decide ((i : Int) < (i : Int)) = false := by simp
      go_wp2
      go_ret
      exact ⟨rfl, below_call HBW.out HB.out⟩
end Go.Proofs.Ytejkbeeffllpfaa
