import Derived.Test.YtdkadmnhfnilkaaX6
namespace Go.Proofs.Ytdkadmnhfnilkaa
open Go.RowKit
set_option linter.unusedVariables false

set_option maxRecDepth 100000 in
set_option maxHeartbeats 20000000 in
theorem all_J2 (mo1 kn1 : Nat) (m1a : 1 ≤ mo1) (m1b : mo1 ≤ 256) (m1c : kn1 ≤ 64) (mi2 ki2 : Int) (bad2 : mi2 < 1 ∨ 256 < mi2 ∨ ki2 < 0 ∨ 64 < ki2) (a : Option Addr) (n cap : Nat) (f : Nat → Sp) (w : World) (hsc : Ss w a n f) (hn : n ≤ 9223372036854775807) :
    Calls Try.prog 6 #[.agg #[.int .i64 (mo1 : Int), .int .i64 (kn1 : Int), .int .i64 mi2, .int .i64 ki2], .slice a n cap] w fun e w' => e = .returned (.bool true) ∧ Below w.heap.size w w' := by
  have HSC := hid hsc
  clear hsc
  go_enter Try.func6, Try.ntmps6
  go_upto_region 1 with fail
  obtain ⟨w0, hw0⟩ : ∃ w0, w0 = w.alloc (Obj.cells #[.int .i64 (mo1 : Int), .int .i64 (kn1 : Int), .int .i64 mi2, .int .i64 ki2] 58) := ⟨_, rfl⟩
  have y0 : w0.cell? ⟨w.heap.size, 0, none⟩ = some (.int .i64 (mo1 : Int)) := by rw [hw0]; simp [go_sem]
  have y1 : w0.cell? ⟨w.heap.size, 1, none⟩ = some (.int .i64 (kn1 : Int)) := by rw [hw0]; simp [go_sem]
  have y2 : w0.cell? ⟨w.heap.size, 2, none⟩ = some (.int .i64 mi2) := by rw [hw0]; simp [go_sem]
  have y3 : w0.cell? ⟨w.heap.size, 3, none⟩ = some (.int .i64 ki2) := by rw [hw0]; simp [go_sem]
  have HY := hid (And.intro y0 (And.intro y1 (And.intro y2 y3)))
  have HB0 : Hid (Below w.heap.size w w0) := by rw [hw0]; exact below1 _ _
  rw [← hw0]
  clear hw0
  go_upto_region 2 with (first | (go_at_call 16; refine (I.new_ok _ mo1 kn1 m1a m1b m1c).mono ?_; rintro e u1 ⟨g1, gb1, N1, rfl, T1, q1a, q1b, hb⟩; have HT1 := hid T1; have HBN1 := hid hb; clear T1 hb))
  obtain ⟨y0', y1', y2', y3'⟩ := (⟨cell_later HBN1.out y0, cell_later HBN1.out y1, cell_later HBN1.out y2, cell_later HBN1.out y3⟩ : _ ∧ _ ∧ _ ∧ _)
  clear y0 y1 y2 y3
  have y0 := y0'
  have y1 := y1'
  have y2 := y2'
  have y3 := y3'
  clear y0' y1' y2' y3'
  go_upto_region 3 with (first | (go_at_call 24; refine (rnew_ok _ mo1 kn1 m1a m1b m1c).mono ?_; rintro e v1 ⟨rfl, R1, hb⟩; have HR1 := hid R1; have HBR1 := hid hb; clear R1 hb))
  obtain ⟨y0', y1', y2', y3'⟩ := (⟨cell_later HBR1.out y0, cell_later HBR1.out y1, cell_later HBR1.out y2, cell_later HBR1.out y3⟩ : _ ∧ _ ∧ _ ∧ _)
  clear y0 y1 y2 y3
  have y0 := y0'
  have y1 := y1'
  have y2 := y2'
  have y3 := y3'
  clear y0' y1' y2' y3'
  obtain ⟨r1, hr1⟩ : ∃ r1, r1 = u1.heap.size := ⟨_, rfl⟩
  rw [← hr1] at HR1
  rw [← hr1]
  have q1c : w0.heap.size ≤ r1 := by have := HBN1.out.size; omega
  have HQ1 := hid hr1
  clear hr1
  go_upto_region 4 with (first | (go_at_call 16; refine (I.new_bad _ _ _ bad2).mono ?_; rintro e u2 ⟨rfl, hw⟩; obtain rfl := hw.symm; clear hw))
  go_upto_region 5 with (first | (go_at_call 24; refine (rnew_bad _ _ _ bad2).mono ?_; rintro e v2 ⟨rfl, hw⟩; obtain rfl := hw.symm; clear hw))
  clear y0 y1 y2 y3
  go_upto_region 7 with (first | (go_at_call 9; refine (known_any _).mono ?_; rintro e wk ⟨rfl, hb⟩; have HBK := hid hb; clear hb))
  have HBA := hid (below_call (below_call (below_call HB0.out HBN1.out) HBR1.out) HBK.out)
  have HP1 : Hid (PrN wk ⟨g1, gb1, kn1, mo1, N1, r1⟩ ⟨none, 0, []⟩) := by
    have l1 := HT1.out.lt
    have l2 := HT1.out.lt2
    have l3 := HQ1.out
    exact ⟨((HT1.out.later HBR1.out).later HBK.out), (HR1.out.later HBK.out), by show r1 ≠ g1; omega, by show r1 ≠ gb1; omega, fun k hk => by obtain ⟨_, e, _⟩ := hk; cases e⟩
  have sz0 := HB0.out.size
  have t1a := HT1.out.lt
  have t1b := HT1.out.lt2
  have t1c := HR1.out.lt
  have z1a := HBN1.out.size
  have z1b := HBR1.out.size
  have zk := HBK.out.size
  have HJ0 : Hid (JJ w wk (some ⟨g1, gb1, kn1, mo1, N1, r1⟩) none ⟨none, 0, []⟩ ⟨none, 0, []⟩ wk.heap.size (wk.heap.size + 1)) := jj_start (fun m e => by cases e; exact HP1.out) (fun m e => by cases e) (fun m e => by
    cases e
    exact ⟨⟨by show w.heap.size ≤ g1; omega, by show g1 < wk.heap.size; omega⟩, ⟨by show w.heap.size ≤ gb1; omega, by show gb1 < wk.heap.size; omega⟩, ⟨by show w.heap.size ≤ r1; omega, by show r1 < wk.heap.size; omega⟩⟩) (fun m e => by cases e) (by omega) (fun m q e1 e2 => by cases e2)
  clear sz0 zk t1a t1b t1c z1a z1b
  go_upto_region 10 with fail
  have hPX : Hid (Px ((wk.alloc (Obj.cells #[.pointer (some ⟨g1, 0, none⟩), .pointer (some ⟨r1, 0, none⟩)] 63)).alloc (Obj.cells #[.pointer none, .pointer none] 63)) wk.heap.size (some ⟨g1, 0, none⟩) (some ⟨r1, 0, none⟩)) := ⟨by simp [go_sem], by simp [go_sem]⟩
  have hPY : Hid (Px ((wk.alloc (Obj.cells #[.pointer (some ⟨g1, 0, none⟩), .pointer (some ⟨r1, 0, none⟩)] 63)).alloc (Obj.cells #[.pointer none, .pointer none] 63)) (wk.heap.size + 1) none none) := ⟨by simp [go_sem], by simp [go_sem]⟩
  have HJ1 := hid (HJ0.out.later (below2 wk (Obj.cells #[.pointer (some ⟨g1, 0, none⟩), .pointer (some ⟨r1, 0, none⟩)] 63) (Obj.cells #[.pointer none, .pointer none] 63)))
  have HB1 := hid (below_call HBA.out (below2 wk (Obj.cells #[.pointer (some ⟨g1, 0, none⟩), .pointer (some ⟨r1, 0, none⟩)] 63) (Obj.cells #[.pointer none, .pointer none] 63)))
  have hwks := hid HBA.out.size
  obtain ⟨bx, hbx⟩ : ∃ bx, bx = wk.heap.size := ⟨_, rfl⟩
  have hbs : Hid (bx + 1 < ((wk.alloc (Obj.cells #[.pointer (some ⟨g1, 0, none⟩), .pointer (some ⟨r1, 0, none⟩)] 63)).alloc (Obj.cells #[.pointer none, .pointer none] 63)).heap.size) := by unfold Hid; rw [hbx]; simp
  rw [← hbx] at HJ1 hPX hPY hwks ⊢
  generalize (wk.alloc (Obj.cells #[.pointer (some ⟨g1, 0, none⟩), .pointer (some ⟨r1, 0, none⟩)] 63)).alloc (Obj.cells #[.pointer none, .pointer none] 63) = wl at *
  clear hbx HBA HJ0
  go_loopw [15] (AllRel w (some ⟨g1, gb1, kn1, mo1, N1, r1⟩) none bx (bx + 1) (some ⟨g1, 0, none⟩) (some ⟨r1, 0, none⟩) none none n) (fun t _ => n - (intOf t).toNat)
  case atStart => exact ⟨0, _, _, Nat.zero_le _, rfl, HJ1.out, HB1.out, hPX.out, hPY.out⟩
  case round =>
    obtain ⟨i, s1, s2, hi, rfl, hJ, hB, hX, hY⟩ := hrel
    have HJ := hid hJ
    have HB := hid hB
    have HX := hid hX
    have HYY := hid hY
    have hbl : Hid (bx + 1 < wr.heap.size) := World.block_lt_of_cell? _ _ hY.c0
    clear hJ hB hX hY
    by_cases hlt : i < n
    · have hsc := HSC.out.later HB.out
      obtain ⟨b, o, rfl, hcs⟩ := hsc.at_ (by omega)
      obtain ⟨b0, o0, hae, hcs0⟩ := HSC.out.at_ (by omega)
      simp only [Option.some.injEq, Addr.mk.injEq] at hae
      have hblt : Hid (b < w.heap.size) := by
        have := World.block_lt_of_cell? _ _ (hcs0 i hlt).c0
        rw [hae.1]
        exact this
      clear hae hcs0
      obtain ⟨c0, c1, c2, c3, c4, c5⟩ := hcs i hlt
      have hok := hsc.ok i hlt
      clear hsc hcs
      generalize f i = s at c0 c1 c2 c3 c4 c5 hok
      obtain ⟨sec, kd, ⟨co, ch, cl⟩, v⟩ := s
      simp only at c0 c1 c2 c3 c4 c5 hok
      obtain ⟨hok1, hok2⟩ := hok
      have hS : Hid (∀ U : World, But (fun k => w.heap.size ≤ k ∧ k ≠ bx ∧ k ≠ bx + 1) wr U → ((U.cell? ⟨b, o + i * 6, none⟩ = some (.bool sec) ∧ U.cell? ⟨b, o + i * 6 + 1, none⟩ = some (.int .i64 kd) ∧ U.cell? ⟨b, o + i * 6 + 2, none⟩ = some (.int .i64 co) ∧ U.cell? ⟨b, o + i * 6 + 3, none⟩ = some (.int .u64 (ch : Int)) ∧ U.cell? ⟨b, o + i * 6 + 4, none⟩ = some (.int .u64 (cl : Int)) ∧ U.cell? ⟨b, o + i * 6 + 5, none⟩ = some (.int .i64 v)) ∧ (U.cell? ⟨bx, 0, none⟩ = some (.pointer (some ⟨g1, 0, none⟩)) ∧ U.cell? ⟨bx, 1, none⟩ = some (.pointer (some ⟨r1, 0, none⟩))) ∧ (U.cell? ⟨bx + 1, 0, none⟩ = some (.pointer none) ∧ U.cell? ⟨bx + 1, 1, none⟩ = some (.pointer none))) ∧ But (fun k => w.heap.size ≤ k ∧ k ≠ bx ∧ k ≠ bx + 1) wr U) := fun U hU => by
        have hnb : ¬ (w.heap.size ≤ b ∧ b ≠ bx ∧ b ≠ bx + 1) := fun e => by have := hblt.out; omega
        have hx := HX.out.but hU (fun e => e.2.1 rfl)
        have hy := HYY.out.but hU (fun e => e.2.2 rfl)
        exact ⟨⟨⟨cell_but hU c0 hnb, cell_but hU c1 hnb, cell_but hU c2 hnb, cell_but hU c3 hnb, cell_but hU c4 hnb, cell_but hU c5 hnb⟩, ⟨hx.c0, hx.c1⟩, ⟨hy.c0, hy.c1⟩⟩, hU⟩
      cases sec with
      | true =>
        clear c1 c2 c3 c4 c5
        go_wp2
        exact ⟨⟨i + 1, s1, s2, by omega, by go_num, HJ.out, HB.out, HX.out, HYY.out⟩, by simp [intOf]; omega⟩
      | false =>
        have HPw := hid (HJ.out.p1 _ rfl)
        have hst := hid (fun (W : World) (hW : Pr W g1 gb1 kn1 mo1 N1 r1 s1.a s1.cap s1.E) => both_step hW ⟨false, kd, (co, ch, cl), v⟩ hok1 hok2)
        have hdr := hid (HJ.out.later (Below.refl wr.heap.size wr).drew)
        have hbd := hid (HB.out.drew)
        go_upto_region 16 with fail
        go_region_held3 (fun U => ((U.cell? ⟨b, o + i * 6, none⟩ = some (.bool false) ∧ U.cell? ⟨b, o + i * 6 + 1, none⟩ = some (.int .i64 kd) ∧ U.cell? ⟨b, o + i * 6 + 2, none⟩ = some (.int .i64 co) ∧ U.cell? ⟨b, o + i * 6 + 3, none⟩ = some (.int .u64 (ch : Int)) ∧ U.cell? ⟨b, o + i * 6 + 4, none⟩ = some (.int .u64 (cl : Int)) ∧ U.cell? ⟨b, o + i * 6 + 5, none⟩ = some (.int .i64 v)) ∧ (U.cell? ⟨bx, 0, none⟩ = some (.pointer (some ⟨g1, 0, none⟩)) ∧ U.cell? ⟨bx, 1, none⟩ = some (.pointer (some ⟨r1, 0, none⟩))) ∧ (U.cell? ⟨bx + 1, 0, none⟩ = some (.pointer none) ∧ U.cell? ⟨bx + 1, 1, none⟩ = some (.pointer none))) ∧ But (fun k => w.heap.size ≤ k ∧ k ≠ bx ∧ k ≠ bx + 1) wr U) (first | exact hS.out _ KP1.out | exact hS.out _ (But.of (Below.refl _ _).drew)) (first | (go_at_call 25; refine (hst.out _ (hdr.out.p1 _ rfl)).mono ?_; rintro e w3 hs3; obtain ⟨rfl, hs3'⟩ := hs3; have HS3 := hid (show Stepped wr.drew g1 gb1 kn1 mo1 N1 r1 s1.a (.returned (.bool true)) w3 from ⟨rfl, hs3'⟩); have KP := hid (hdr.out.keep hbd.out HS3.out); have KP1 := hid ((But.of (S := fun k => w.heap.size ≤ k ∧ k ≠ bx ∧ k ≠ bx + 1) (Below.refl wr.heap.size wr).drew).trans KP.out.2); clear hs3'))
        clear c0 c1 c2 c3 c4 c5
        go_wp2
        obtain ⟨q, hq⟩ := hdr.out.step HB.out.size (show bx < wr.drew.heap.size by have := hbl.out; show bx < wr.heap.size; omega) (show bx + 1 < wr.drew.heap.size from hbl.out) HS3.out
        exact ⟨⟨i + 1, q, s2, by omega, by go_num, hq, KP.out.1, HX.out.but KP1.out (fun e => e.2.1 rfl), HYY.out.but KP1.out (fun e => e.2.2 rfl)⟩, by simp [intOf]; omega⟩
    · have hsz := hid HB.out.size
      obtain ⟨x0, x1⟩ := (⟨HX.out.c0, HX.out.c1⟩ : _ ∧ _)
      obtain ⟨z0, z1⟩ := (⟨HYY.out.c0, HYY.out.c1⟩ : _ ∧ _)
      go_upto_region 20 with fail
      clear x0 x1 z0 z1
      have hbA := below1 wr (Obj.cells #[.bool false, .int .i64 3, .int .i64 0, .int .u64 0, .int .u64 0, .int .i64 0] 36)
      have SBX : Hid (Sb (wr.alloc (Obj.cells #[.bool false, .int .i64 3, .int .i64 0, .int .u64 0, .int .u64 0, .int .i64 0] 36)) wr.heap.size 0 ⟨false, 3, (0, 0, 0), 0⟩) := Sb.new wr ⟨false, 3, (0, 0, 0), 0⟩
      have HJA := hid (HJ.out.later hbA)
      have HBA := hid (below_call HB.out hbA)
      have HXA := hid (HX.out.later hbA)
      have HYA := hid (HYY.out.later hbA)
      have hsA : Hid (bx + 1 < (wr.alloc (Obj.cells #[.bool false, .int .i64 3, .int .i64 0, .int .u64 0, .int .u64 0, .int .i64 0] 36)).heap.size) := by unfold Hid; have := hbl.out; simp; omega
      have hsB : Hid (w.heap.size ≤ wr.heap.size) := HB.out.size
      obtain ⟨bs, hbs2⟩ : ∃ bs, bs = wr.heap.size := ⟨_, rfl⟩
      rw [← hbs2] at SBX hsB
      try rw [← hbs2]
      have hse : Hid (∀ (n : Nm) (q : Hs), PrN wr n q → ∀ k, XbN n q k → k ≠ bs) := fun n q hp k hk => by have := Pr.lt hp k hk; omega
      have hn1 := hid (hse.out _ _ (HJ.out.p1 _ rfl))
      generalize wr.alloc (Obj.cells #[.bool false, .int .i64 3, .int .i64 0, .int .u64 0, .int .u64 0, .int .i64 0] 36) = wa at *
      clear hbA hbs2 hse
      obtain ⟨x0, x1⟩ := (⟨HXA.out.c0, HXA.out.c1⟩ : _ ∧ _)
      obtain ⟨z0, z1⟩ := (⟨HYA.out.c0, HYA.out.c1⟩ : _ ∧ _)
      obtain ⟨b0, b1, b2, b3, b4, b5⟩ := SBX.out
      simp only [Nat.zero_add] at b1 b2 b3 b4 b5
      have hst1 := hid (both_step (HJA.out.p1 _ rfl) ⟨false, 3, (0, 0, 0), 0⟩ (show (0 : Nat) < B64 by decide) (show (0 : Nat) < B64 by decide))
      go_wp2_with (first
        | (go_at_call 25; refine hst1.out.mono ?_; rintro e w3 hs3; obtain ⟨rfl, hs3'⟩ := hs3; have KP := hid (HJA.out.keep HBA.out (show Stepped wa g1 gb1 kn1 mo1 N1 r1 s1.a (.returned (.bool true)) w3 from ⟨rfl, hs3'⟩)); clear hs3'))
      go_ret
      exact ⟨rfl, KP.out.1⟩
end Go.Proofs.Ytdkadmnhfnilkaa
