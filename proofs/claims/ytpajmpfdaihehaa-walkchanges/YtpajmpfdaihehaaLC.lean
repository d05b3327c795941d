import Derived.Test.YtpajmpfdaihehaaB8
import Derived.Sort.CutIn
namespace Go.Proofs.Ytpajmpfdaihehaa
open Go.RowKit Go.Shelf
set_option linter.unusedVariables false
attribute [local go_sem] Oper.semAt_some

set_option maxRecDepth 100000 in
set_option maxHeartbeats 4000000 in
theorem changes_law (x0 : Int) (a : Option Addr) (k0 cap : Nat) (f : Nat → Op3) (n st : Int) (w : World) (hS : Ss w a k0 f) (hk : k0 ≤ 9223372036854775807) :
    Calls Try.prog 4 #[.int .i64 x0, .slice a k0 cap, .int .i64 n, .int .i64 st] w fun e w' => e = .returned (.bool true) ∧ Below w.heap.size w w' := by
  obtain ⟨m, hm, hmv, hm1, hm2⟩ := rest_pos x0 60 (by omega)
  simp only [Int.cast_ofNat_Int] at hmv hm1 hm2
  have hwr : IntKind.i64.wrap (x0.tmod 60 + 60) = x0.tmod 60 + 60 := wrap_small (by omega) (by omega)
  refine (callsIn_wide (n := 3)).1 ?_
  refine callsIn_of_wp_marks Try.func4 rfl trivial ?_ rfl
  simp only [Try.ntmps4, List.size_toArray, List.length_cons, List.length_nil, Nat.reduceAdd, Nat.reduceSub, Array.replicate_succ, Array.replicate_zero, List.push_toArray, List.append_toArray, List.nil_append, List.cons_append]
  refine wpIn_wide.2 ?_
  go_upto_region 2 with fail
  clear hmv hm1 hm2 hwr
  have hBA : Below w.heap.size w (((w.alloc (Obj.cells #[.int .i64 n] 3)).alloc (Obj.cells #[.int .i64 st] 3)).alloc (Obj.cells #[.bool false] 4)) := (below2 _ _ _).alloc (by simp; omega) _
  have hszA : (((w.alloc (Obj.cells #[.int .i64 n] 3)).alloc (Obj.cells #[.int .i64 st] 3)).alloc (Obj.cells #[.bool false] 4)).heap.size = w.heap.size + 3 := by simp
  have c6 : Lies (((w.alloc (Obj.cells #[.int .i64 n] 3)).alloc (Obj.cells #[.int .i64 st] 3)).alloc (Obj.cells #[.bool false] 4)) ⟨w.heap.size, 0, none⟩ (.int .i64 n) := ⟨by simp [go_sem], by simp [go_sem]⟩
  have c7 : Lies (((w.alloc (Obj.cells #[.int .i64 n] 3)).alloc (Obj.cells #[.int .i64 st] 3)).alloc (Obj.cells #[.bool false] 4)) ⟨w.heap.size + 1, 0, none⟩ (.int .i64 st) := ⟨by simp [go_sem], by simp [go_sem]⟩
  have c8 : Lies (((w.alloc (Obj.cells #[.int .i64 n] 3)).alloc (Obj.cells #[.int .i64 st] 3)).alloc (Obj.cells #[.bool false] 4)) ⟨w.heap.size + 1 + 1, 0, none⟩ (.bool false) := ⟨by simp [go_sem], by simp [go_sem]⟩
  generalize ((w.alloc (Obj.cells #[.int .i64 n] 3)).alloc (Obj.cells #[.int .i64 st] 3)).alloc (Obj.cells #[.bool false] 4) = wA at hBA hszA c6 c7 c8 ⊢
  have HF := hid (forest_any m (by omega) a k0 cap f wA (hS.later hBA) hk)
  generalize playL m f k0 = l at HF
  generalize hs6 : w.heap.size = B6 at c6 c7 c8 hszA ⊢
  generalize hs7 : B6 + 1 = B7 at c7 c8 ⊢
  generalize hs8 : B7 + 1 = B8 at c8 ⊢
  have HBA := hid hBA
  have HN := hid (show w.heap.size = B6 ∧ B6 + 1 = B7 ∧ B7 + 1 = B8 ∧ wA.heap.size = B6 + 3 from ⟨hs6, hs7, hs8, hszA⟩)
  clear hS hBA hs6 hs7 hs8 hszA
  go_upto_region 3 with (first | (go_at_call 7; refine HF.out.mono ?_; rintro e w1 ⟨g, gb, r, rfl, hD, hB1, hg, hgb, _⟩; have HK1 := hid hD.ki; have HB1 := hid hB1; clear hD hB1 HF))
  have c10 := lies_new w1 (.pointer (some ⟨g, 0, none⟩)) 23
  have hB2 := below1 w1 (Obj.cells #[.pointer (some ⟨g, 0, none⟩)] 23)
  have hz2 : (w1.alloc (Obj.cells #[.pointer (some ⟨g, 0, none⟩)] 23)).heap.size = w1.heap.size + 1 := by simp
  have hgl := HK1.out.lt
  replace c6 := c6.later HB1.out
  replace c7 := c7.later HB1.out
  replace c8 := c8.later HB1.out
  have HK2 := hid (HK1.out.later hB2)
  have hB2w : Below wA.heap.size wA (w1.alloc (Obj.cells #[.pointer (some ⟨g, 0, none⟩)] 23)) := below_call HB1.out hB2
  replace c6 := c6.later hB2
  replace c7 := c7.later hB2
  replace c8 := c8.later hB2
  generalize w1.alloc (Obj.cells #[.pointer (some ⟨g, 0, none⟩)] 23) = w2 at c6 c7 c8 c10 hB2w hz2 HK2 ⊢
  generalize hs10 : w1.heap.size = B10 at c10 hz2 hgl ⊢
  have HN2 := hid (show (g < B10 ∧ gb < B10) ∧ wA.heap.size ≤ g ∧ wA.heap.size ≤ gb ∧ w2.heap.size = B10 + 1 from ⟨hgl, hg, hgb, hz2⟩)
  have HB2 := hid hB2w
  clear hB2 hB2w hs10 hgl hz2 hg hgb HK1 HB1
  have y10 := c10.1
  have y6 := c6.1
  go_upto_region 5 with (first | (go_at_call 8; refine (alive_any _).mono ?_; rintro e w3 ⟨rfl, hb3⟩; have HK3 := hid (HK2.out.later hb3); have HB3 := hid (below_call HB2.out hb3); have HZ3 := hid hb3.size; replace c6 := c6.later hb3; replace c7 := c7.later hb3; replace c8 := c8.later hb3; replace c10 := c10.later hb3; replace y10 := c10.1; replace y6 := c6.1; clear hb3 HK2 HB2))
  go_upto_region 6 with (first | (go_at_call 9; refine (downs_O HK3.out n).mono ?_; rintro e w4 ⟨a4, c4, rfl, hO4, hb4⟩; have HO4 := hid hO4; have HK4 := hid (HK3.out.later hb4); have HB4 := hid (below_call HB3.out hb4); have HZ4 := hid hb4.size; replace c6 := c6.later hb4; replace c7 := c7.later hb4; replace c8 := c8.later hb4; replace c10 := c10.later hb4; replace y10 := c10.1; replace y6 := c6.1; clear hO4 hb4 HK3 HB3))
  have HOK := hid HK4.out.ok
  have hgn := Nat.le_trans (G_len HOK.out true n) HK4.out.big
  have c12 := lies_new w4 (.slice a4 (G true l n).length c4) 28
  have hB5 := below1 w4 (Obj.cells #[.slice a4 (G true l n).length c4] 28)
  have hz5 : (w4.alloc (Obj.cells #[.slice a4 (G true l n).length c4] 28)).heap.size = w4.heap.size + 1 := by simp
  have HK5 := hid (HK4.out.later hB5)
  have HO5 := hid (HO4.out.later hB5)
  have HB5 := hid (below_call HB4.out hB5)
  replace c6 := c6.later hB5
  replace c7 := c7.later hB5
  replace c8 := c8.later hB5
  replace c10 := c10.later hB5
  generalize w4.alloc (Obj.cells #[.slice a4 (G true l n).length c4] 28) = w5 at c6 c7 c8 c10 c12 hz5 HK5 HO5 HB5 ⊢
  generalize hs12 : w4.heap.size = B12 at c12 hz5 ⊢
  have HN5 := hid (show w2.heap.size ≤ w3.heap.size ∧ w3.heap.size ≤ B12 ∧ w5.heap.size = B12 + 1 from ⟨HZ3.out, by have := HZ4.out; omega, hz5⟩)
  have hblk : ∀ k, Blk a4 k → w3.heap.size ≤ k ∧ k < B12 := fun k hk => ⟨HO4.out.blk k hk, by have := HO4.out.lt k hk; omega⟩
  have HBK := hid hblk
  clear hB5 hs12 hz5 HK4 HB4 HO4 hblk HZ3 HZ4
  replace y10 := c10.1
  replace y6 := c6.1
  have hnil := eql_nil
  have hmk1 := hid (make_any true g n)
  change Hid (∀ w, Calls Try.prog 18 _ w _) at hmk1
  have hmk2 := hid (make_any false g n)
  change Hid (∀ w, Calls Try.prog 19 _ w _) at hmk2
  go_upto_region 11 with (first | (go_at_call 14; refine (ups_O HK5.out n).mono ?_; rintro e w6 ⟨a6, d6, rfl, hR6, hb6⟩; have HR6 := hid hR6; have HB6 := hid hb6; replace y10 := cell_later hb6 y10; replace y6 := cell_later hb6 y6; clear hR6 hb6) | (go_at_call 18; refine (hmk1.out _).mono ?_; rintro e w7 ⟨b7, rfl, hS7, hb7⟩; have HS7 := hid hS7; have HB7 := hid hb7; replace y10 := cell_later hb7 y10; replace y6 := cell_later hb7 y6; clear hS7 hb7) | (go_at_call 19; refine (hmk2.out _).mono ?_; rintro e w8 ⟨b8, rfl, hS8, hb8⟩; have HS8 := hid hS8; have HB8 := hid hb8; replace y10 := cell_later hb8 y10; replace y6 := cell_later hb8 y6; clear hS8 hb8))
  clear y10 y6 hmk1 hmk2 hnil
  go_upto_region 12 with fail
  have c18 := lies_new w8 (.int .i64 0) 3
  have hB9 := below1 w8 (Obj.cells #[.int .i64 0] 3)
  have hz9 : (w8.alloc (Obj.cells #[.int .i64 0] 3)).heap.size = w8.heap.size + 1 := by simp
  have HB69 := hid (below_call (below_call HB7.out HB8.out) hB9)
  have HB79 := hid (below_call HB8.out hB9)
  have HB59 := hid (below_call HB6.out HB69.out)
  have HK9 := hid (HK5.out.later HB59.out)
  have HBw9 := hid (below_call HBA.out (below_call HB5.out HB59.out))
  have HZ := hid (show w5.heap.size ≤ w6.heap.size ∧ w6.heap.size ≤ w7.heap.size ∧ w7.heap.size ≤ w8.heap.size from ⟨HB6.out.size, HB7.out.size, HB8.out.size⟩)
  have HS89 := hid (HS8.out.later hB9)
  have HB89 := hid hB9
  generalize w8.alloc (Obj.cells #[.int .i64 0] 3) = w9 at c18 hz9 HB69 HB79 HB59 HK9 HBw9 HS89 HB89 ⊢
  clear hB9
  generalize hs18 : w8.heap.size = Bk at c18 hz9 ⊢
  have HCS := hid (fun (W : World) (hb : But (fun k => k = Bk ∨ k = gb) w9 W) => (show Cst W B6 B7 B8 B10 B12 g w6.heap.size b7 w7.heap.size b8 n st a4 (G true l n).length c4 (G true l n) a6 (U l n).length d6 (U l n) from by
    have n1 := HN.out
    have n2 := HN2.out
    have n5 := HN5.out
    have nz := HZ.out
    refine ⟨(c6.later HB59.out).but hb (by simp; omega), (c7.later HB59.out).but hb (by simp; omega), (c8.later HB59.out).but hb (by simp; omega), (c10.later HB59.out).but hb (by simp; omega), (c12.later HB59.out).but hb (by simp; omega), (HO5.out.read.later HB59.out).but hb (fun k hk hs => ?_), (HR6.out.read.later HB69.out).but hb (fun k hk hs => ?_), Sq.keep (S := fun k => k = Bk ∨ k = gb) ((But.of HB79.out).trans hb) HS7.out (fun k hk => ?_), Sq.keep (S := fun k => k = Bk ∨ k = gb) ((But.of HB89.out).trans hb) HS8.out (fun k hk => ?_)⟩
    · have := HBK.out k hk
      rcases hs with hs | hs <;> omega
    · have h1 := HR6.out.blk k hk
      have h2 := HR6.out.lt k hk
      rcases hs with hs | hs <;> omega
    · rcases hk with hk | hk <;> omega
    · rcases hk with hk | hk <;> omega))
  have HNN := hid (show w.heap.size = B6 ∧ B6 < B7 ∧ B7 < B8 ∧ B8 < gb ∧ B8 < g ∧ gb < B10 ∧ g < B10 ∧ B10 < B12 ∧ B12 < Bk ∧ w9.heap.size = Bk + 1 from by
    have n1 := HN.out
    have n2 := HN2.out
    have n5 := HN5.out
    have nz := HZ.out
    omega)
  clear c6 c7 c8 c10 c12 HO5 HR6 HS7 HS8 HB69 HB79 HB59 HN HN2 HN5 HZ HBK HS89 HB89 HB5 HB6 HB7 HB8 HBA HK5 hs18 hz9
  generalize w6.heap.size = s7 at HCS
  generalize w7.heap.size = s8 at HCS
  go_wp2
  refine (wpIn_wide (n := 3)).1 ?_
  refine range_brk (i := 0) true 19 (by omega) rfl (HCS.out w9 (But.refl _ _)).q7 HK9.out (· = Bk) (fun k hk => by have := HNN.out; omega)
    (fun pre W => ((pre <+: G true l n) ∧ Lies W ⟨Bk, 0, none⟩ (.int .i64 (pre.length : Int))) ∧ But (· = Bk) w9 W)
    (fun c pre W => (c = .ret ∧ ¬ (pre <+: G true l n)) ∨ (c = .exit 0 ∧ (Lies W ⟨Bk, 0, none⟩ (.int .i64 st) ∧ But (· = Bk) w9 W)))
    (fun W => ∃ q : Int, (q = ((G true l n).length : Int) ∨ q = st) ∧ Lies W ⟨Bk, 0, none⟩ (.int .i64 q) ∧ But (· = Bk) w9 W)
    (OwnFrom.and (OwnFrom.and (ownFrom_pure _ _) (lies_from _ _ _)) (ownFrom_but (Nat.le_refl _)))
    (fun c => ownFrom_or (ownFrom_pure _ _) (OwnFrom.and (ownFrom_pure _ _) (OwnFrom.and (lies_from _ _ _) (ownFrom_but (Nat.le_refl _)))))
    ⟨⟨List.nil_prefix, c18⟩, But.refl _ _⟩
    (fun W h => ⟨_, .inl rfl, h.1.2, h.2⟩)
    (fun c pre W hp hx => hx.elim (fun h => absurd hp h.2) (fun h => ⟨h.1, st, .inr rfl, h.2.1, h.2.2⟩)) ?assign1 ?body1 ?rest1
  case assign1 =>
    intro L x W K hK
    gi_wp2
    exact hK
  case body1 =>
    rintro L pre x W ⟨⟨hp, d18⟩, hb⟩ hlt
    change pre.length < (G true l n).length at hlt
    have cst := HCS.out W (hb.mono (fun k h => .inl h))
    obtain ⟨bw, ow, rfl, hc⟩ := cst.rw_.plain (by omega)
    have y20 := hc pre.length _ (ints_get (G true l n) pre.length hlt)
    have HPN := hid (fun x => pre_next (x := x) hp hlt)
    rw [List.getElem?_eq_getElem hlt] at HPN
    generalize (G true l n)[pre.length] = u at y20 HPN
    have y7 := cst.c7.1
    have y8 := cst.c8.1
    have z8 := cst.c8.2
    have y12 := cst.c12.1
    have y18 := d18.1
    have z18 := d18.2
    have hni : ¬ ((G true l n).length : Int) ≤ (pre.length : Int) := by omega
    have hnn := HNN.out
    simp only [actX, List.setIfInBounds_toArray, List.set]
    by_cases hx : x = u
    · subst hx
      have hne : (x != x) = false := by simp
      have hbt : But (· = Bk) W (W.setCell ⟨Bk, 0, none⟩ (.int .i64 ((pre.length : Int) + 1))) := (But.refl (· = Bk) W).setCell (p := ⟨Bk, 0, none⟩) (show Bk = Bk from rfl) _
      have hl2 := d18.put (u := .int .i64 ((pre.length : Int) + 1))
      have y18b := hl2.1
      have y7b := (cst.c7.but hbt (by show ¬ B7 = Bk; omega)).1
      have HKF := hid (keeps_below (B := w9.heap.size) hbt (fun k hk => by omega))
      have HKQ := hid (kq_same hbt)
      have HBT := hid (hb.trans hbt)
      have HL2 := hid hl2
      have HP := hid ((HPN.out x).1 rfl)
      clear hc hb hbt hl2 d18 cst hp HPN hnn
      by_cases hst : (pre.length : Int) + 1 = st
      · have hq : ((pre.length : Int) + 1 == st) = true := by simp [hst]
        have HST := hid hst
        clear hst
        gi_wp2
        exact ⟨HKF.out, .inr ⟨rfl, by rw [← HST.out]; exact HL2.out, HBT.out⟩⟩
      · have hq : ((pre.length : Int) + 1 == st) = false := by simp [hst]
        clear hst
        gi_wp2
        exact ⟨HKF.out, HKQ.out, ⟨HP.out, by have := HL2.out; simpa using this⟩, HBT.out⟩
    · have hne : (x != u) = true := by simp [hx]
      have HE := hid (show ¬ (pre ++ [x] <+: G true l n) from fun hh => hx (by have := (HPN.out x).2 hh; simpa using this.symm))
      clear hc hb d18 cst hp HPN hnn hx
      gi_wp2
      exact ⟨(KeepsOthers.setCell _ _ _).from _, .inl ⟨rfl, HE.out⟩⟩
  case rest1 =>
    rintro D1 W hD1 ⟨q, hq, d18, hb⟩ hK
    have cst := HCS.out W (hb.mono (fun k h => .inl h))
    have HK10 := hid (HK9.out.but hb (by have := HNN.out; show ¬ g = Bk; omega) (by have := HNN.out; show ¬ gb = Bk; omega))
    have HWI := hid (within_any HK10.out n cst.rw_ cst.ru)
    have HDF := hid (show Df W D1 from hK)
    have y6 := cst.c6.1
    have y7 := cst.c7.1
    have y10 := cst.c10.1
    have y12 := cst.c12.1
    have y18 := d18.1
    have HCT := hid cst
    have HD18 := hid d18
    have HB := hid hb
    clear cst d18 hb hK c18 HK9
    go_upto_region 18 with fail
    go_cut [109] from 93 to 108 (fun s w' => s = .bool false ∧ Below W.heap.size W w')
    case first =>
      by_cases hql : q = ((G true l n).length : Int)
      · have hqb : (q != ((G true l n).length : Int)) = false := by simp [hql]
        clear hq hql
        go_wp2_with (first | (go_at_call 20; refine HWI.out.mono ?_; rintro e w10 ⟨rfl, hb10⟩; have HB10 := hid hb10; clear hb10))
        go_meet
        exact ⟨rfl, HB10.out⟩
      · have hqb : (q != ((G true l n).length : Int)) = true := by simp [hql]
        have hqs : (q != st) = false := by rcases hq with h | h; exact absurd h hql; simp [h]
        clear hq hql
        go_wp2_with (first | (go_at_call 20; refine HWI.out.mono ?_; rintro e w10 ⟨rfl, hb10⟩; have HB10 := hid hb10; clear hb10))
        go_meet
        exact ⟨rfl, HB10.out⟩
    case rest =>
      obtain ⟨rfl, hbc⟩ := hcut
      have d18 := HD18.out.later hbc
      have y18c := d18.1
      have z18c := d18.2
      have hbd : But (fun k => k = Bk ∨ k = gb) w9 (wc.setCell ⟨Bk, 0, none⟩ (.int .i64 0)) := ((HB.out.mono (fun k h => .inl h)).call hbc).setCell (p := ⟨Bk, 0, none⟩) (.inl rfl) _
      have hbd2 : But (· = Bk) wc (wc.setCell ⟨Bk, 0, none⟩ (.int .i64 0)) := (But.refl (· = Bk) wc).setCell (p := ⟨Bk, 0, none⟩) (show Bk = Bk from rfl) _
      have hld := d18.put (u := .int .i64 0)
      have HKd := hid ((HK10.out.later hbc).but hbd2 (by have := HNN.out; show ¬ g = Bk; omega) (by have := HNN.out; show ¬ gb = Bk; omega))
      have HDd := hid ((HDF.out.later hbc).but hbd2 (by have := HNN.out; show ¬ D1 = Bk; omega))
      have HBd := hid hbd
      have HLd := hid hld
      clear HK10 HWI HDF y6 y7 y10 y12 y18 HCT HD18 HB hq hbd hbd2 hld hbc d18
      go_upto_region 21 with fail
      generalize wc.setCell ⟨Bk, 0, none⟩ (.int .i64 0) = wd at HKd HDd HBd HLd ⊢
      clear y18c z18c
      go_wp2
      refine (wpIn_wide (n := 3)).1 ?_
      have HSZ := hid HBd.out.size
      refine range_brk (i := 2) true 20 (by omega) rfl (HCS.out wd HBd.out).q7 HKd.out (fun k => k = Bk ∨ k = gb) (fun k hk => by have := HNN.out; have := HSZ.out; rcases hk with hk | hk <;> omega)
        (fun pre W => (((pre <+: G true l n) ∧ Lies W ⟨Bk, 0, none⟩ (.int .i64 (pre.length : Int))) ∧ But (fun k => k = Bk ∨ k = gb) wd W) ∧ Ki W g gb m (if pre = [] then l else cuts l (Fl l n)))
        (fun c pre W => c = .ret ∧ ¬ (pre <+: G true l n))
        (fun W => (Lies W ⟨Bk, 0, none⟩ (.int .i64 ((G true l n).length : Int)) ∧ But (fun k => k = Bk ∨ k = gb) wd W) ∧ ∃ l2, Ki W g gb m l2 ∧ n ∉ nums l2)
        (OwnFrom.and (OwnFrom.and (OwnFrom.and (ownFrom_pure _ _) (lies_from _ _ _)) (ownFrom_but (Nat.le_refl _))) (ownFrom_ki _ (by have := HNN.out; have := HSZ.out; omega) (by have := HNN.out; have := HSZ.out; omega)))
        (fun c => ownFrom_pure _ _)
        ⟨⟨⟨List.nil_prefix, HLd.out⟩, But.refl _ _⟩, by rw [if_pos rfl]; exact HKd.out⟩
        (fun W h => ⟨⟨h.1.1.2, h.1.2⟩, _, h.2, by
          change n ∉ nums (if G true l n = [] then l else cuts l (Fl l n))
          split
          · next he => exact fun hn => by rw [G_eq HOK.out hn] at he; cases he
          · exact cuts_gone HOK.out n⟩)
        (fun c pre W hp hx => absurd hp hx.2) ?assign2 ?body2 ?rest2
      case assign2 =>
        intro L x W K hK
        gi_wp2
        exact hK
      case body2 =>
        rintro L pre x W ⟨⟨⟨hp, d18⟩, hb⟩, hKi⟩ hlt
        change pre.length < (G true l n).length at hlt
        have hbw : But (fun k => k = Bk ∨ k = gb) w9 W := HBd.out.trans hb
        have cst := HCS.out W hbw
        obtain ⟨bw, ow, rfl, hc⟩ := cst.rw_.plain (by omega)
        have y20 := hc pre.length _ (ints_get (G true l n) pre.length hlt)
        have HPN := hid (fun x => pre_next (x := x) hp hlt)
        rw [List.getElem?_eq_getElem hlt] at HPN
        generalize (G true l n)[pre.length] = u at y20 HPN
        have y6 := cst.c6.1
        have y10 := cst.c10.1
        have y8 := cst.c8.1
        have z8 := cst.c8.2
        have y12 := cst.c12.1
        have y18 := d18.1
        have z18 := d18.2
        have hni : ¬ ((G true l n).length : Int) ≤ (pre.length : Int) := by omega
        have hnn := HNN.out
        simp only [actX, List.setIfInBounds_toArray, List.set]
        by_cases hx : x = u
        · subst hx
          have hne : (x != x) = false := by simp
          have HP := hid ((HPN.out x).1 rfl)
          cases pre with
          | nil =>
            change Lies W ⟨Bk, 0, none⟩ (.int .i64 0) at d18
            change W.cell? _ = some (.int .i64 0) at y18
            change W.cell? ⟨bw, ow, none⟩ = _ at y20
            have hgne : ¬ G true l n = [] := fun e => by rw [e] at hlt; simp at hlt
            have hpos : 0 < (G true l n).length := by simpa using hlt
            clear hni
            rw [if_pos rfl] at hKi
            have HFa := hid (fall_F hKi n)
            have HKi := hid hKi
            have HCT := hid cst
            have HB := hid hb
            have HD18 := hid d18
            clear hc hb d18 cst hp HPN hKi hbw hlt
            gi_upto_region 28 with (first | (refine ⟨trivial, ?_⟩; gi_at_call 10; refine (CallsIn.inRound L (callsIn_wide.2 HFa.out)).mono ?_; rintro e w2 ⟨a2, c2, rfl, hO2, hb2⟩; have HO2 := hid hO2; have HB2 := hid hb2; have HK2 := hid (HKi.out.later hb2); clear hO2 hb2 HFa))
            have HY10 := hid (fun W2 (hb : But (· = gb) w2 W2) => cell_but hb (cell_later HB2.out y10) (by show ¬ B10 = gb; omega))
            have hgl2 : gb < W.heap.size := HKi.out.lt.2
            have hmx : Try.prog.follows .mixedOrders = true := by kernel_rfl
            have hFl := Nat.le_trans (Nat.le_of_eq (Fl_len HOK.out n)) (Nat.le_trans (G_len HOK.out true n) HKi.out.big)
            clear y6 y10 y8 z8 y12 y18 z18 y20 hne
            gi_loopw [22] (CutRel w2 g gb m l n) (fun t _ => (Fl l n).length - (intOf t).toNat)
            case atStart => exact ⟨0, Nat.zero_le _, rfl, by rw [List.take_zero, cuts_nil]; exact HK2.out, But.refl _ _⟩
            case round =>
              obtain ⟨j, hj, rfl, hK, hB⟩ := hrel
              have hO3 := HO2.out.but hB (fun k hk e => by have := HO2.out.blk k hk; omega)
              by_cases hlt2 : j < (Fl l n).length
              · obtain ⟨y, hy⟩ := get_some (L := Fl l n) (i := j) hlt2
                obtain ⟨s1, s2, s3⟩ := fall_step HOK.out hy
                have hc := cut_any (hK.later (Below.refl _ _).drew) y
                rw [show cutE (cuts l ((Fl l n).take j)) y = 0 by unfold cutE; rw [if_pos s1, if_pos s2], show cutL (cuts l ((Fl l n).take j)) y = cuts l ((Fl l n).take (j + 1)) by unfold cutL; rw [if_pos ⟨s1, s2⟩, s3]] at hc
                obtain ⟨b4, rfl⟩ := hO3.form (by omega)
                obtain ⟨_, e4, hL4⟩ := hO3.lies rfl (j := j) (u := .int .i64 y) (by simp [ints, hy])
                cases e4
                have y4 := hL4.1
                have y10 := HY10.out _ hB
                have HC := hid hc
                have HB8 := hid hB
                clear hc hK hB hO3 hL4 s1 s2 s3 hy
                gi_upto_region 30 with fail
                gi_region_with_o (refine ⟨trivial, ?_⟩; gi_at_call 17; refine (CallsIn.inRound L (callsIn_wide.2 HC.out)).mono ?_; rintro e w15 ⟨rfl, hK15, hB15⟩; have HK15 := hid hK15; have HB15 := hid (HB8.out.trans ((But.of ((Below.refl _ _).drew)).trans hB15)); clear hK15 hB15)
                all_goals (gi_wp2; go_roundw)
                all_goals first | exact ⟨j + 1, by omega, by go_num, HK15.out, HB15.out⟩ | (simp [intOf]; omega)
              · obtain rfl : j = (Fl l n).length := by omega
                rw [List.take_length] at hK
                have hd := (HD18.out.later HB2.out).but hB (by show ¬ Bk = gb; omega)
                have y18 := hd.1
                have z18 := hd.2
                have hb4 : But (fun k => k = Bk ∨ k = gb) W (wr.setCell ⟨Bk, 0, none⟩ (.int .i64 1)) := ((But.of HB2.out).trans (hB.mono (fun k h => .inr h))).setCell (p := ⟨Bk, 0, none⟩) (.inl rfl) _
                have HPO := hid (show KeepsFrom wd.heap.size W (wr.setCell ⟨Bk, 0, none⟩ (.int .i64 1)) ∧ Kq (fun _ k => k = Bk ∨ k = gb) W (wr.setCell ⟨Bk, 0, none⟩ (.int .i64 1)) ∧ ((([] ++ [x] <+: G true l n) ∧ Lies (wr.setCell ⟨Bk, 0, none⟩ (.int .i64 1)) ⟨Bk, 0, none⟩ (.int .i64 (([] ++ [x] : List Int).length : Int))) ∧ But (fun k => k = Bk ∨ k = gb) wd (wr.setCell ⟨Bk, 0, none⟩ (.int .i64 1))) ∧ Ki (wr.setCell ⟨Bk, 0, none⟩ (.int .i64 1)) g gb m (if ([] ++ [x] : List Int) = [] then l else cuts l (Fl l n)) from
                  ⟨keeps_below hb4 (fun k hk => by have := HSZ.out; rcases hk with hk | hk <;> omega), kq_same hb4, ⟨⟨HP.out, hd.put⟩, HB.out.trans hb4⟩, by
                    rw [if_neg (by simp)]
                    exact hK.but ((But.refl (· = Bk) wr).setCell (p := ⟨Bk, 0, none⟩) (show Bk = Bk from rfl) _) (by show ¬ g = Bk; omega) (by show ¬ gb = Bk; omega)⟩)
                clear hK hB hO3 hd hb4 hnn
                gi_wp2
                exact HPO.out
          | cons p0 pre =>
            rw [if_neg (by simp)] at hKi
            obtain ⟨j, hj⟩ : ∃ j, j = (p0 :: pre).length := ⟨_, rfl⟩
            have hj0 : ((j : Int) == 0) = false := by rw [hj]; simp; omega
            rw [← hj] at d18 y18 y20 hni hlt
            have hbt : But (· = Bk) W (W.setCell ⟨Bk, 0, none⟩ (.int .i64 ((j : Int) + 1))) := (But.refl (· = Bk) W).setCell (p := ⟨Bk, 0, none⟩) (show Bk = Bk from rfl) _
            have hbt2 := hbt.mono (T := fun k => k = Bk ∨ k = gb) (fun k h => .inl h)
            have HPO := hid (show KeepsFrom wd.heap.size W (W.setCell ⟨Bk, 0, none⟩ (.int .i64 ((j : Int) + 1))) ∧ Kq (fun _ k => k = Bk ∨ k = gb) W (W.setCell ⟨Bk, 0, none⟩ (.int .i64 ((j : Int) + 1))) ∧ (((p0 :: pre ++ [x] <+: G true l n) ∧ Lies (W.setCell ⟨Bk, 0, none⟩ (.int .i64 ((j : Int) + 1))) ⟨Bk, 0, none⟩ (.int .i64 ((p0 :: pre ++ [x]).length : Int))) ∧ But (fun k => k = Bk ∨ k = gb) wd (W.setCell ⟨Bk, 0, none⟩ (.int .i64 ((j : Int) + 1)))) ∧ Ki (W.setCell ⟨Bk, 0, none⟩ (.int .i64 ((j : Int) + 1))) g gb m (if p0 :: pre ++ [x] = [] then l else cuts l (Fl l n)) from
              ⟨keeps_below hbt (fun k hk => by have := HSZ.out; omega), kq_same hbt2, ⟨⟨HP.out, by
                have := d18.put (u := .int .i64 ((j : Int) + 1))
                rw [hj] at this ⊢
                simpa using this⟩, hb.trans hbt2⟩, by
                rw [if_neg (by simp)]
                exact hKi.but hbt (by show ¬ g = Bk; omega) (by show ¬ gb = Bk; omega)⟩)
            clear hc hb d18 cst hp HPN hnn hKi hbw hbt hbt2 hj HP hlt
            gi_wp2
            exact HPO.out
        · have hne : (x != u) = true := by simp [hx]
          have HE := hid (show ¬ (pre ++ [x] <+: G true l n) from fun hh => hx (by have := (HPN.out x).2 hh; simpa using this.symm))
          clear hc hb d18 cst hp HPN hnn hx hKi hbw
          gi_wp2
          exact ⟨(KeepsOthers.setCell _ _ _).from _, rfl, HE.out⟩
      case rest2 =>
        rintro D2 W2 hD2 ⟨⟨d18, hb⟩, l2, hK2, hn2⟩ hKd2
        have hnn := HNN.out
        have hsz := HSZ.out
        have hsz2 := hb.size
        have f1 := HDd.out.but hb (by show ¬ (D1 = Bk ∨ D1 = gb); omega)
        have f2 : Df W2 D2 := hKd2
        have o12 : D1 < D2 := Nat.lt_of_lt_of_le HDd.out.lt hD2
        have hb9 : But (fun k => k = Bk ∨ k = gb) w9 W2 := HBd.out.trans hb
        have hal := below1 W2 (Obj.cells #[.int .i64 0] 3)
        have c23 := lies_new W2 (.int .i64 0) 3
        have hz3 : (W2.alloc (Obj.cells #[.int .i64 0] 3)).heap.size = W2.heap.size + 1 := by simp
        have HK3 := hid (hK2.later hal)
        have f1b := f1.later hal
        have f2b := f2.later hal
        have o23 : D2 < W2.heap.size := f2.lt
        have hb93 := hb9.call hal
        have d18b := d18.later hal
        go_upto_region 33 with fail
        generalize W2.alloc (Obj.cells #[.int .i64 0] 3) = W3 at hal c23 hz3 HK3 f1b f2b hb93 d18b ⊢
        generalize hs23 : W2.heap.size = B23 at c23 hz3 o23 ⊢
        have HN3 := hid (show D1 < D2 ∧ D2 < B23 ∧ W3.heap.size = B23 + 1 ∧ wd.heap.size ≤ D2 ∧ w9.heap.size ≤ D1 ∧ wd.heap.size ≤ B23 from ⟨o12, o23, hz3, hD2, hD1, by omega⟩)
        have HF1 := hid f1b
        have HF2 := hid f2b
        have HB93 := hid hb93
        have HD18 := hid d18b
        have HC23 := hid c23
        have HN2 := hid hn2
        clear hnn hsz hsz2 f1 f2 o12 hb9 hal c23 hz3 f1b f2b o23 hb93 d18b hs23 d18 hb hK2 hn2 hKd2 hD2 HKd HDd HLd HBd
        go_wp2
        refine (wpIn_wide (n := 3)).1 ?_
        refine range_brk (i := 6) true 24 (by omega) rfl (HCS.out W3 HB93.out).q7 HK3.out (fun _ => False) (fun k hk => hk.elim)
          (fun pre W => But (fun _ => False) W3 W) (fun c pre W => False) (fun W => But (fun _ => False) W3 W)
          (ownFrom_but (Nat.le_refl _)) (fun c => ownFrom_pure _ _) (But.refl _ _) (fun W h => h) (fun c pre W hp hx => hx.elim) ?assign3 ?body3 ?rest3
        case assign3 =>
          intro L x W K hK
          gi_wp2
          exact hK
        case body3 =>
          rintro L pre x W hb hlt
          exfalso
          change pre.length < (G true l2 n).length at hlt
          rw [G_out HN2.out] at hlt
          simp at hlt
        case rest3 =>
          rintro D3 W4 hD3 hb4 hK4
          have HB4 := hid hb4
          have HF3 := hid (show Df W4 D3 from hK4)
          have HK4 := hid (HK3.out.but hb4 (fun h => h) (fun h => h))
          have HB94 := hid (HB93.out.trans (hb4.mono (fun k h => h.elim)))
          clear hb4 hK4
          go_wp2
          refine (wpIn_wide (n := 3)).1 ?_
          refine range_brk (i := 8) false 25 (by omega) rfl (HCS.out W4 HB94.out).q8 HK4.out (fun _ => False) (fun k hk => hk.elim)
            (fun pre W => But (fun _ => False) W4 W) (fun c pre W => False) (fun W => But (fun _ => False) W4 W)
            (ownFrom_but (Nat.le_refl _)) (fun c => ownFrom_pure _ _) (But.refl _ _) (fun W h => h) (fun c pre W hp hx => hx.elim) ?assign4 ?body4 ?rest4
          case assign4 =>
            intro L x W K hK
            gi_wp2
            exact hK
          case body4 =>
            rintro L pre x W hb hlt
            exfalso
            change pre.length < (U l2 n).length at hlt
            rw [U_out HN2.out] at hlt
            simp at hlt
          case rest4 =>
            rintro D4 W5 hD4 hb5 hK5
            have n3 := HN3.out
            have nn := HNN.out
            have hz4 := HB4.out.size
            have l3 := HF3.out.lt
            have hb35 := HB4.out.trans hb5
            have cst := HCS.out W5 (HB93.out.trans (hb35.mono (fun k h => h.elim)))
            have y8 := cst.c8.1
            have z8 := cst.c8.2
            have y12 := cst.c12.1
            have y18 := (HD18.out.but hb35 (fun h => h)).1
            have y23 := (HC23.out.but hb35 (fun h => h)).1
            have hbt : But (· = B8) W5 (W5.setCell ⟨B8, 0, none⟩ (.bool true)) := (But.refl (· = B8) W5).setCell (p := ⟨B8, 0, none⟩) (show B8 = B8 from rfl) _
            have e1 : Df (W5.setCell ⟨B8, 0, none⟩ (.bool true)) D1 := (HF1.out.but hb35 (fun h => h)).but hbt (by show ¬ D1 = B8; omega)
            have e2 : Df (W5.setCell ⟨B8, 0, none⟩ (.bool true)) D2 := (HF2.out.but hb35 (fun h => h)).but hbt (by show ¬ D2 = B8; omega)
            have e3 : Df (W5.setCell ⟨B8, 0, none⟩ (.bool true)) D3 := (HF3.out.but hb5 (fun h => h)).but hbt (by show ¬ D3 = B8; omega)
            have e4 : Df (W5.setCell ⟨B8, 0, none⟩ (.bool true)) D4 := (show Df W5 D4 from hK5).but hbt (by show ¬ D4 = B8; omega)
            have g3 := e3.put (E := D4) (by omega)
            have g2 := (e2.put (E := D4) (by omega)).put (E := D3) (by omega)
            have g1 := ((e1.put (E := D4) (by omega)).put (E := D3) (by omega)).put (E := D2) (by omega)
            have hres := ((((cst.c8.put (u := .bool true)).deferred e4).deferred g3).deferred g2).deferred g1
            have hBE := below_deferred (below_deferred (below_deferred (below_deferred ((But.below HBw9.out (HB93.out.trans (hb35.mono (fun k h => h.elim))) (fun k hk => by rcases hk with hk | hk <;> omega)).setCell (p := ⟨B8, 0, none⟩) (by show w.heap.size ≤ B8; omega) (.bool true)) (by omega) e4) (by omega) g3) (by omega) g2) (by omega) g1
            have hc5 := hres.1
            have HE4 := hid e4
            have HG3 := hid g3
            have HG2 := hid g2
            have HG1 := hid g1
            have HBE := hid hBE
            have HC5 := hid hc5
            clear cst hb5 hK5 hb35 hbt e1 e2 e3 e4 g3 g2 g1 hres hBE hc5 n3 nn hz4 l3
            go_wp2
            refine ⟨by simp, .inl ⟨_, _, rfl, run_takeDeferred HE4.out, ?_⟩⟩
            refine ⟨by simp, .inl ⟨_, _, rfl, run_takeDeferred HG3.out, ?_⟩⟩
            refine ⟨by simp, .inl ⟨_, _, rfl, run_takeDeferred HG2.out, ?_⟩⟩
            refine ⟨by simp, .inl ⟨_, _, rfl, run_takeDeferred HG1.out, ?_⟩⟩
            have hc5 := HC5.out
            refine ⟨.bool true, ?_, rfl, HBE.out⟩
            simp [results, Try.f4, go_sem, hc5]
end Go.Proofs.Ytpajmpfdaihehaa
