import Derived.Test.YtejkbeeffllpfaaS4
namespace Go.Proofs.Ytejkbeeffllpfaa
open Go.RowKit
set_option linter.unusedVariables false
set_option linter.unusedSimpArgs false

theorem Row.but0 {S : Nat → Prop} {w w' : World} {a : Option Addr} {n cap : Nat} {L : List Value} (hb : But S w w') (h : Row w a n cap L) (hn : 0 < n → ∀ k, Blk a k → ¬ S k) : Row w' a n cap L := by
  by_cases h0 : 0 < n
  · exact h.but hb (hn h0)
  · have hL : L = [] := List.eq_nil_of_length_eq_zero (by rw [h.len]; omega)
    subst hL
    exact ⟨h.len, h.cap_, h.none_, fun _ _ j u hu => by simp at hu, h.one⟩
theorem marks_small : ∀ x ∈ marksL, x < 256 := by
  intro x hx
  simp only [marksL, List.mem_map] at hx
  obtain ⟨i, _, rfl⟩ := hx
  exact Nat.mod_lt _ (by omega)
theorem But.drop {S : Nat → Prop} {w w' : World} {g : Nat} (h : But (fun k => S k ∨ k = g) w w') (hg : w.heap.size ≤ g) : But S w w' :=
  ⟨h.os, h.tape, h.output, h.size, fun k hk hn => h.block k hk (fun e => e.elim hn (fun e => by omega))⟩
set_option maxRecDepth 100000 in
set_option maxHeartbeats 4000000 in
theorem play_3 (base : Nat) (z : Sid) (r : Nat) (M : Nat → Prop) (o : Opx) (w : World) (hP : Pr w base z r M) (hO : OpxIn w o) (hda : 0 < o.md → ∀ j, Blk o.da j → j < base) (hk : o.kd = 3) :
    Calls Try.prog 16 #[.agg #[.pointer (some ⟨z.s, 0, none⟩), .pointer (some ⟨r, 0, none⟩)], .agg (opxCells o)] w fun e w' => e = .returned (.bool true) ∧ Left w base z r M w' := by
  obtain ⟨nx, Os, G, a, cap, col, hD, hM, hMb⟩ := hP
  obtain ⟨W, hW, hDW, hBx, hBW, hne⟩ := play_start (M := M) hD o
  have HD := hid hD
  have HM := hid hM
  have HMb := hid hMb
  have HDW := hid hDW
  have HBW := hid hBW
  have HNE := hid hne
  have s1 := hBx.s1
  have c0 := hBx.c0
  have c2 := hBx.c2
  have c3 := hBx.c3
  have c5 := hBx.c5
  rw [hk] at c0 hW
  have HBx := hid hBx
  have hi := hO.hid
  have hof := hO.hof
  have hdm := hO.hd
  have HSM := hid hO.small
  have HRW := hid (hO.rd.later hBW)
  have HAP : Hid (0 < o.md → ∀ j, Blk o.da j → col j = 0) := hid (fun h0 j hj => by
    rcases Nat.eq_zero_or_pos (col j) with e | e
    · exact e
    · have h1 := hD.q.ge j (by omega)
      have h2 := hda h0 j hj
      omega)
  have hnz : ¬ (col w.heap.size ≠ 0) := fun e => (hne _ (.inr (.inr e))).1 rfl
  have hnz1 : ¬ (col (w.heap.size + 1) ≠ 0) := fun e => (hne _ (.inr (.inr e))).2 rfl
  have hz0 : ¬ Zb z w.heap.size := fun e => (hne _ (.inl e)).1 rfl
  have hz1 : ¬ Zb z (w.heap.size + 1) := fun e => (hne _ (.inl e)).2 rfl
  unfold opxCells
  rw [hk]
  obtain ⟨md, hmd⟩ : ∃ md, md = o.md := ⟨_, rfl⟩
  obtain ⟨cd, hcd⟩ : ∃ cd, cd = o.cd := ⟨_, rfl⟩
  obtain ⟨E, hE⟩ : ∃ E, E = rdE Os o.id o.of (md : Int) := ⟨_, rfl⟩
  have HE := hid hE
  rw [← hmd] at c5 hdm HRW HAP hW ⊢
  rw [← hcd] at c5 HRW hW ⊢
  have HE2 : Hid (rvE (vw Os) o.id o.of (md : Int) = E) := hid (by rw [vw_rdE, hE])
  have HDL : Hid (o.D.length = md) := hid (by have := HRW.out.len; rwa [u8s_length] at this)
  have HCC : Hid (∀ U, Bx U w.heap.size z r o → U.cell? ⟨w.heap.size + 1, 5, none⟩ = some (.slice o.da md cd)) := hid (fun U h => by rw [hmd, hcd]; exact h.c5)
  have HDA : Hid (0 < md → ∀ j, Blk o.da j → j < base) := hid (by rw [hmd]; exact hda)
  clear hD hM hMb hDW hBx hBW hne hE hmd hcd hda
  go_enter Try.func16, Try.ntmps16
  go_upto_region 19 with fail
  rw [← hW]
  clear hW
  go_upto_region 20 with (first | (go_at_call 38; refine (rwrite_any base r z.room z.n nx (vw Os) G a cap col o.id o.of o.da md cd o.D _ HDW.out.q hof HRW.out HSM.out (by omega) HAP.out).mono ?_; rintro e w2 ⟨rfl, Q2, B2⟩; rw [HE2.out]))
  have HBx2 := hid (HBx.out.but B2 hnz hnz1)
  have HC2 := hid (HCC.out _ HBx2.out)
  have x5 := HC2.out
  have HQ2 := hid Q2
  have HB2 := hid B2
  have HR2 := hid (HRW.out.but0 B2 (fun h0 j hj e => e (HAP.out h0 j hj)))
  clear Q2 B2 s1 c0 c2 c3 c5
  go_upto_region 21 with (first | (go_at_call 39; refine (lent_any o.da md cd o.D _ HR2.out hdm).mono ?_; rintro e w3 ⟨b, c, rfl, O3, B3⟩))
  obtain ⟨g, rfl, hg1, hg2, _⟩ := O3.spot (by omega)
  have HO3 := hid O3
  have HB3 := hid B3
  have hcap3 := O3.read.cap_
  have HBx3 := hid (HBx2.out.later B3)
  have hWs := HBW.out.size
  have hBs := HB2.out.size
  have HS3 := hid ((HDW.out.s.but HB2.out (fun j hj e => (HDW.out.ap j e).1 hj) (fun j hj e => (HDW.out.ap j e).2 hj)).later B3)
  have HQ3 := hid (HQ2.out.later B3)
  have HRL : Hid (Row w3 (some ⟨g, 0, none⟩) md c (u8s o.D)) := hid (by
    have := O3.read.sub (m := md) (c := c) (by omega) (by omega) (fun e => by cases e)
    rw [u8s_take, List.take_left' HDL.out] at this
    exact this)
  have hzg : ¬ Zb z g := fun e => by have := HDW.out.s.zlt g e; omega
  have HAZ : Hid (0 < md → ∀ j, Blk (some ⟨g, 0, none⟩) j → ¬ Zb z j) := hid (fun _ j hj => by rw [blk_at hj]; exact hzg)
  have hc0 : (0 : Int) ≤ (md : Int) := by omega
  have hc1 : (md : Int) ≤ (c : Int) := by omega
  have HS : Hid (∀ U, But (Zb z) w3 U → (U.cell? ⟨w.heap.size, 0, none⟩ = some (.pointer (some ⟨z.s, 0, none⟩)) ∧ U.cell? ⟨w.heap.size + 1, 2, none⟩ = some (.int .i64 o.id) ∧ U.cell? ⟨w.heap.size + 1, 3, none⟩ = some (.int .i64 o.of) ∧ U.cell? ⟨w.heap.size + 1, 5, none⟩ = some (.slice o.da md cd)) ∧ But (Zb z) w3 U) := hid (fun U hU => by
    have h1 := HBx3.out.but hU hz0 hz1
    exact ⟨⟨h1.s0, h1.c2, h1.c3, HCC.out _ h1⟩, hU⟩)
  clear O3 B3 x5
  go_region_held3 (fun U => (U.cell? ⟨w.heap.size, 0, none⟩ = some (.pointer (some ⟨z.s, 0, none⟩)) ∧ U.cell? ⟨w.heap.size + 1, 2, none⟩ = some (.int .i64 o.id) ∧ U.cell? ⟨w.heap.size + 1, 3, none⟩ = some (.int .i64 o.of) ∧ U.cell? ⟨w.heap.size + 1, 5, none⟩ = some (.slice o.da md cd)) ∧ But (Zb z) w3 U) (first | exact HS.out _ (But.of (Below.refl _ _).drew) | exact HS.out _ hb4.out) (first
    | (go_at_call 12; refine (st_write z nx Os o.id o.of _ md c o.D _ (HS3.out.later (Below.refl _ _).drew) hi (HRL.out.later (Below.refl _ _).drew) HSM.out HAZ.out).mono ?_; rintro e w4 ⟨rfl, S4, B4⟩; rw [← HE.out]; have hb4 := hid ((But.of (S := Zb z) (Below.refl w3.heap.size w3).drew).trans B4)))
  have HS4 := hid S4
  have HBx4 := hid (HBx3.out.but hb4.out hz0 hz1)
  have x5 := HCC.out _ HBx4.out
  have HR4 := hid ((HR2.out.later HB3.out).but0 hb4.out (fun h0 j hj e => by
    have h1 := HDA.out h0 j hj
    have h2 := (HMb.out j (HM.out j (.inl e))).1
    omega))
  have HL4 := hid (HO3.out.but hb4.out (fun j hj => by rw [blk_at hj]; exact hzg))
  have HQ4 := hid (HQ3.out.but hb4.out (fun j hj => (HDW.out.ap j hj).1))
  have HSD : Hid (∀ x ∈ o.D ++ marksL, x < 256) := hid (fun x hx => (List.mem_append.1 hx).elim (HSM.out x) (marks_small x))
  obtain ⟨m, hm⟩ : ∃ m, md + 300 = m := ⟨_, rfl⟩
  rw [hm] at HL4 hcap3 hdm ⊢
  have HLN : Hid (∀ (a : Option Addr) (n cap : Nat) (D : List Nat) (w : World) (h : Row w a md cap (u8s D)), Calls Try.prog 39 #[.slice a md cap] w fun e w' => ∃ b c, e = .returned (.slice b m c) ∧ Own w' w.heap.size 5 b m c (u8s (D ++ marksL)) ∧ Below w.heap.size w w') := hid (by
    intro a n cap D w h
    rw [← hm]
    exact lent_any a md cap D w h (by omega))
  have hm0 : 0 < m := by omega
  clear S4 B4 hm
  go_upto_region 24 with (first
    | (go_at_call 11; refine (same_any _ _ m m c c5 _ _ _ HL5.out.read HO5.out.read HSD.out HSD.out).mono ?_; rintro e w6 ⟨rfl, hw⟩; obtain rfl := hw.symm; rw [decide_eq_true rfl])
    | (go_at_call 39; refine (HLN.out o.da md cd o.D _ HR4.out).mono ?_; rintro e w5 ⟨b5, c5, rfl, O5, B5⟩; have HO5 := hid O5; have HB5 := hid B5; have HL5 := hid (HL4.out.later B5); clear O5 B5))
  obtain ⟨g', hgg, _, _, hsp⟩ := HL5.out.spot hm0
  cases hgg
  have HSP := hid hsp
  clear hsp x5
  go_loopw [20] (OvRel w5 g m) (fun v _ => m - ivN v)
  case atStart => exact ⟨0, rfl, Nat.zero_le _, HSP.out, But.refl _ _⟩
  case round =>
    obtain ⟨i, rfl, hi2, hs, hB⟩ := hrel
    have HSI := hid hs
    have HBI := hid hB
    clear hs hB
    by_cases hlt : i < m
    · have hd : decide ((i : Int) < (m : Int)) = true := decide_eq_true (by omega)
      obtain ⟨v, hv⟩ := HSI.out i hlt
      have q1 := hv.1
      have q2 := hv.2
      clear hv
      go_wp2
      exact ⟨⟨i + 1, rfl, by omega, HSI.out.put hlt, But.setCell (S := (· = g)) HBI.out (p := ⟨g, i, none⟩) (show g = g from rfl) _⟩, by simp [ivN]; omega⟩
    · obtain rfl : i = m := by omega
      have hd : decide ((i : Int) < (i : Int)) = false := by simp
      go_wp2
      go_ret
      have hng : ∀ j, Own2 z Os col j → ¬ j = g := fun j hj e => by have := HDW.out.lt j hj; omega
      have b1 : But (fun k => Own2 z Os col k ∨ k = g) w w5 := (But.of HBW.out).trans (((own_c HB2.out).mono (fun _ h => .inl h)).trans ((But.of HB3.out).trans (((own_z hb4.out).mono (fun _ h => .inl h)).trans (But.of HB5.out))))
      have b2 : But (Own2 z Os col) w wr := But.drop (b1.trans (HBI.out.mono (fun _ h => .inr h))) (by omega)
      refine ⟨rfl, left_of HD.out HM.out HMb.out (nx' := nx) (Os' := wrO Os o.id o.of o.D) (G' := G) (a' := a) (cap' := cap) (col' := col) ⟨(HS4.out.later HB5.out).but HBI.out (fun j hj => hng j (.inl hj)) (fun j hj => hng j (.inr (.inl (rb_wrO hj)))), ?_, fun j hj => ⟨(HDW.out.ap j hj).1, fun e => (HDW.out.ap j hj).2 (rb_wrO e)⟩⟩ ?_ b2⟩
      · rw [vw_wrO]
        exact (HQ4.out.later HB5.out).but HBI.out (fun j hj => hng j (.inr (.inr hj)))
      · rintro j (h1 | h1 | h1)
        · exact .inl (.inl h1)
        · exact .inl (.inr (.inl (rb_wrO h1)))
        · exact .inl (.inr (.inr h1))
/-- A call of any kind. -/
theorem play_any (base : Nat) (z : Sid) (r : Nat) (M : Nat → Prop) (o : Opx) (w : World) (hP : Pr w base z r M) (hO : OpxIn w o) (hda : 0 < o.md → ∀ j, Blk o.da j → j < base) :
    Calls Try.prog 16 #[.agg #[.pointer (some ⟨z.s, 0, none⟩), .pointer (some ⟨r, 0, none⟩)], .agg (opxCells o)] w fun e w' => e = .returned (.bool true) ∧ Left w base z r M w' := by
  by_cases k0 : o.kd = 0
  · exact play_0 base z r M o w hP hO k0
  by_cases k1 : o.kd = 1
  · exact play_1 base z r M o w hP hO k1
  by_cases k2 : o.kd = 2
  · exact play_2 base z r M o w hP hO k2
  by_cases k3 : o.kd = 3
  · exact play_3 base z r M o w hP hO hda k3
  by_cases k4 : o.kd = 4
  · exact play_4 base z r M o w hP hO k4
  exact play_5 base z r M o w hP hO ⟨k0, k1, k2, k3, k4⟩
end Go.Proofs.Ytejkbeeffllpfaa
