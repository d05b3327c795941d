import Derived.Test.YtejkbeeffllpfaaS5
namespace Go.Proofs.Ytejkbeeffllpfaa
open Go.RowKit
set_option linter.unusedVariables false
set_option linter.unusedSimpArgs false

theorem szV_parts (x : Option (List Nat)) : ∃ (sz : Int) (ok : Bool), szV x = .tuple #[.int .i64 sz, .bool ok] := by
  cases x with
  | none => exact ⟨_, _, rfl⟩
  | some l => exact ⟨_, _, rfl⟩
theorem st_size2 (z : Sid) (nx : Int) (Os : List Ob) (id : Int) (w : World) (h : St w z nx Os) (hi : i64ok id) :
    Calls Try.prog 45 #[.pointer (some ⟨z.s, 0, none⟩), .int .i64 id] w fun e w' => e = .returned (szV (atV (vw Os) id)) ∧ Below w.heap.size w w' := by
  refine (st_size z nx Os id w h hi).mono ?_
  rintro e w' ⟨h1, h2⟩
  refine ⟨?_, h2⟩
  rw [h1, vw_at]
  cases at? Os id <;> rfl
set_option maxRecDepth 100000 in
set_option maxHeartbeats 4000000 in
theorem told_any (base : Nat) (z : Sid) (r : Nat) (M : Nat → Prop) (id : Int) (w : World) (hP : Pr w base z r M) (hi : i64ok id) :
    Calls Try.prog 21 #[.agg #[.pointer (some ⟨z.s, 0, none⟩), .pointer (some ⟨r, 0, none⟩)], .int .i64 id] w fun e w' => e = .returned (.bool true) ∧ Below w.heap.size w w' := by
  obtain ⟨nx, Os, G, a, cap, col, hD, hM, hMb⟩ := hP
  have s0 := (lies_new w #[.pointer (some ⟨z.s, 0, none⟩), .pointer (some ⟨r, 0, none⟩)] 46 0 _ rfl).1
  have s1 := (lies_new w #[.pointer (some ⟨z.s, 0, none⟩), .pointer (some ⟨r, 0, none⟩)] 46 1 _ rfl).1
  obtain ⟨W, hW⟩ : ∃ W, W = w.alloc (.cells #[.pointer (some ⟨z.s, 0, none⟩), .pointer (some ⟨r, 0, none⟩)] 46) := ⟨_, rfl⟩
  have hBW : Below w.heap.size w W := by rw [hW]; exact below1 _ _
  rw [← hW] at s0 s1
  have HDW := hid (hD.later hBW)
  have HBW := hid hBW
  obtain ⟨sz, ok, hsz⟩ := szV_parts (atV (vw Os) id)
  have HSZ := hid hsz
  obtain ⟨F, hF⟩ : ∃ F : Int, ((z.n - usedN Os : Nat) : Int) = F := ⟨_, rfl⟩
  have HF := hid hF
  have HF2 : Hid ((z.n : Int) - (usedV (vw Os) : Int) = F) := hid (by
    rw [vw_used, ← hF]
    have := hD.s.used
    omega)
  have HLN : Hid ((vw Os).length = Os.length) := hid (vw_length Os)
  have HID : Hid ((vw Os).map Prod.fst = Os.map Ob.id) := hid (vw_ids Os)
  have HSL : Hid (Os.length < 9223372036854775807) := hid (by have := hD.q.rm; rw [vw_length] at this; omega)
  have q1 : (sz == sz) = true := by simp
  have q2 : (ok == ok) = true := by simp
  have q3 : (nx == nx) = true := by simp
  have q4 : (F == F) = true := by simp
  clear hD hM hMb hBW hsz hF
  go_enter Try.func21, Try.ntmps21
  go_upto_region 1 with fail
  rw [← hW]
  clear hW
  go_upto_region 2 with (first | (go_at_call 45; refine (st_size2 z nx Os id _ HDW.out.s hi).mono ?_; rintro e w2 ⟨rfl, B2⟩; rw [HSZ.out]))
  have HD2 := hid (HDW.out.later B2)
  have HB2 := hid (below_call HBW.out B2)
  have t0 := cell_later B2 s0
  have t1 := cell_later B2 s1
  clear s0 s1 B2
  go_upto_region 3 with (first | (go_at_call 46; refine (rsize_any base r z.room z.n nx (vw Os) G a cap col id _ HD2.out.q).mono ?_; rintro e w3 ⟨rfl, hw⟩; obtain rfl := hw.symm; rw [HSZ.out]))
  have HS : Hid (∀ U, Below w2.heap.size w2 U → (U.cell? ⟨w.heap.size, 0, none⟩ = some (.pointer (some ⟨z.s, 0, none⟩)) ∧ U.cell? ⟨w.heap.size, 1, none⟩ = some (.pointer (some ⟨r, 0, none⟩)) ∧ U.cell? ⟨r, 3, none⟩ = some (.int .i64 nx)) ∧ Below w2.heap.size w2 U) := by
    have x := HD2.out.q.c3.1
    exact hid (fun U hU => ⟨⟨cell_later hU t0, cell_later hU t1, cell_later hU x⟩, hU⟩)
  clear t0 t1
  go_region_held3 (fun U => (U.cell? ⟨w.heap.size, 0, none⟩ = some (.pointer (some ⟨z.s, 0, none⟩)) ∧ U.cell? ⟨w.heap.size, 1, none⟩ = some (.pointer (some ⟨r, 0, none⟩)) ∧ U.cell? ⟨r, 3, none⟩ = some (.int .i64 nx)) ∧ Below w2.heap.size w2 U) (first | exact HS.out _ hb5.out | exact HS.out _ hb3.out | exact HS.out _ hb2.out | exact HS.out _ hb1.out | exact HS.out _ (Below.refl _ _).drew) (first
    | (go_at_call 47; refine (rfree_any base r z.room z.n nx (vw Os) G a cap col _ (HD2.out.later hb5.out).q).mono ?_; rintro e w9 ⟨rfl, hw⟩; obtain rfl := hw.symm; rw [HF2.out])
    | (go_at_call 9; refine (st_free z nx Os _ (HD2.out.later hb3.out).s).mono ?_; rintro e w8 ⟨rfl, B8⟩; rw [HF.out]; have hb5 := hid (below_call hb3.out B8))
    | (go_at_call 23; refine (st_next z nx Os _ (HD2.out.later hb3.out).s).mono ?_; rintro e w7 ⟨rfl, hw⟩; obtain rfl := hw.symm)
    | (go_at_call 19; refine (sameInts_any _ _ _ _ _ _ _ _ _ (HO4.out.read.later B5.out) HO5.out.read HSL.out).mono ?_; rintro e w6 ⟨rfl, k, hw⟩; obtain rfl := hw; rw [decide_eq_true rfl]; have hb3 := hid (below_call hb2.out (below_drewN (Below.refl _ _) k)))
    | (go_at_call 17; refine (rids_any base r z.room z.n nx (vw Os) G a cap col _ (HD2.out.later hb1.out).q).mono ?_; rintro e w5 ⟨b5, c5, rfl, O5, B5_⟩; rw [HLN.out]; rw [HLN.out, HID.out] at O5; have HO5 := hid O5; have B5 := hid B5_; have hb2 := hid (below_call hb1.out B5_); clear O5 B5_)
    | (go_at_call 14; refine (st_ids z nx Os _ (HD2.out.later (Below.refl _ _).drew).s).mono ?_; rintro e w4 ⟨b4, c4, rfl, O4, B4⟩; have HO4 := hid O4; have hb1 := hid (below_call (Below.refl w2.heap.size w2).drew B4); clear O4 B4))
  go_wp2
  go_ret
  exact ⟨rfl, below_call HB2.out hb5.out⟩
end Go.Proofs.Ytejkbeeffllpfaa
