import Derived.Test.YticgammbjcdobaaQK
namespace Go.Proofs.Yticgammbjcdobaa
open Go.RowKit
set_option linter.unusedVariables false
set_option linter.unusedSimpArgs false
theorem Tls.row {w w' : World} {base : Nat} {a : Option Addr} {n cap : Nat} {L : List Value} (ho : Ow w base 31 3 a n cap L) (hb : But (Blk a) w w') : ∀ {ls : List Lk} {p : Option Addr}, Tls w p ls → Tls w' p ls
  | [], p, h' => h'
  | x :: ls, p, ⟨k, ah, e, ht, hr⟩ => ⟨k, ah, e, ht.but hb (ht.row ho), Tls.row ho hb hr⟩
/-- A book, while a row of capabilities that is none of its own is written. -/
theorem Bk.row {w w' : World} {m : Bm} {B : Bv} (h : Bk w m B) {base : Nat} {a : Option Addr} {n cap : Nat} {L : List Value} (ho : Ow w base 31 3 a n cap L) (hn : ∀ j, Blk a j → ¬ Owb m j) (hb : But (Blk a) w w') : Bk w' m B := by
  have hr : ∀ v ls, RT w v ls → RT w' v ls := fun v ls ⟨k, e, ht, hk⟩ => ⟨k, e, ht.row ho hb, hk⟩
  have h1 : ∀ j ∈ m.blks, ¬ Blk a j := fun j hj hb => hn j hb (.inl hj)
  have h2 : ∀ x ∈ m.I, ∀ j, Blk x.s.a j → ¬ Blk a j := fun x hx j hj hb => hn j hb (.inr (.inl ⟨x, hx, hj⟩))
  have h3 : ∀ x ∈ m.K, ∀ j, Blk x.s.a j → ¬ Blk a j := fun x hx j hj hb => hn j hb (.inr (.inr ⟨x, hx, hj⟩))
  have hw := h.bw
  refine ⟨⟨hw.bx.but hb (h1 _ (by simp [Bm.blks])), hw.live.but hb (fun j hj => h1 j (List.mem_append.2 (.inl hj))), hw.laid.but hb (fun j hj => h1 j (List.mem_append.2 (.inr (List.mem_append.2 (.inr (rest_a hj)))))), hw.told.but hb (fun j hj => h1 j (List.mem_append.2 (.inr (List.mem_append.2 (.inl hj))))), ⟨hw.lists.out.but hb (h1 _ (by simp [Bm.blks])), fun k hk => ⟨(hw.lists.each k hk).1.but hb (h2 k hk), (hw.lists.each k hk).2⟩, hw.lists.dis⟩, ⟨hw.known.out.but hb (h1 _ (by simp [Bm.blks])), fun k hk => ⟨(hw.known.each k hk).1.but hb (h3 k hk), (hw.known.each k hk).2⟩, hw.known.dis⟩, hw.dis, fun j hj => Nat.lt_of_lt_of_le (hw.lo j hj) hb.size, hw.ap⟩, h.n, h.live, h.laid.mono hr, h.told.mono hr, h.lists, h.known, h.kne, h.cnt⟩
abbrev spwV (B : Bv) (b nu : Int) (gs : List Int) : Bv := { (spV (B.lists b) b nu B gs).2 with lists := up1 (spV (B.lists b) b nu B gs).2.lists nu (spV (B.lists b) b nu B gs).1 }
def SpRel (V : World) (m : Bm) (L : List Cp) (b nu : Int) (B : Bv) (gs : List Int) (vk vl : Value) (U : World) : Prop :=
  ∃ (k : Nat) (la : Option Addr) (lc : Nat) (m' : Bm), vk = .int .i64 (k : Int) ∧ k ≤ gs.length ∧ vl = .slice la (spV L b nu B (gs.take k)).1.length lc ∧ Bk U m' (spV L b nu B (gs.take k)).2 ∧ Tr V U m m' ∧ m'.I = m.I ∧ Ow U V.heap.size 31 3 la (spV L b nu B (gs.take k)).1.length lc (capsL (spV L b nu B (gs.take k)).1) ∧ ∀ j, Blk la j → ¬ Owb m' j
set_option maxRecDepth 100000 in
set_option maxHeartbeats 8000000 in
theorem spawned_bk (m : Bm) (B : Bv) (x : Cq) (cd nu : Int) (c : Cp) (d : Sl) (gs : List Int) (w : World) (h : Bk w m B) (hx : x.ok) (hnu : I64 nu) (hnn : I64 B.n) (hg : RI w x.gs.a x.gs.n x.gs.c gs) (hgb : ∀ j, Blk x.gs.a j → j < w.heap.size ∧ ¬ Owb m j) (hn : gs.length ≤ 100000000) (hln : (B.lists x.b).length ≤ 100000000) (hl : (B.known nu).length + gs.length ≤ 100000000) :
    Calls Try.prog 25 #[.pointer (some ⟨m.g, 0, none⟩), x.v, rpV cd c d nu] w fun e w' => e = .returned (.tuple #[]) ∧ ∃ m', Bk w' m' (spwV B x.b nu gs) ∧ Tr w w' m m' := by
  obtain ⟨o, ch, cl⟩ := c
  obtain ⟨W, hW⟩ : ∃ W, W = (w.alloc (Obj.cells x.L.toArray 36)).alloc (Obj.cells #[.int .i64 cd, .int .i64 o, .int .u64 (ch : Int), .int .u64 (cl : Int), .slice d.a d.n d.c, .int .i64 nu] 39) := ⟨_, rfl⟩
  have hB : Below w.heap.size w W := by rw [hW]; exact below2 _ _ _
  have HX0 : Hid (Bx W w.heap.size x.L) := by rw [hW]; exact (Bx.new w x.L _).later (below1 _ _)
  have HX1 : Hid (Bx W (w.heap.size + 1) (rpL cd ⟨o, ch, cl⟩ d nu)) := by rw [hW]; have := Bx.new (w.alloc (Obj.cells x.L.toArray 36)) (rpL cd ⟨o, ch, cl⟩ d nu) 39; simp at this; exact this
  have HXl : Hid (w.heap.size + 1 < W.heap.size) := HX1.out.lt (by simp)
  obtain ⟨s, hs, hfar⟩ := h.lists.look x.b
  obtain ⟨L, hL⟩ : ∃ L, L = B.lists x.b := ⟨_, rfl⟩
  unfold spwV
  rw [← hL] at hs hfar hln ⊢
  have hsn := (h.bw.lists.look hx.b hs).2.2
  obtain ⟨sa, sn, sc⟩ := s
  have HLk : Hid (∀ U, Below w.heap.size w U → (Instr.lookup 61 (.map (some m.bi)) (.int .i64 x.b) false).run Try.prog U = .ok (.slice sa sn sc) U) := fun U hU => ((h.bw.lists.later hU).look hx.b hs).1
  have HLt := hid h.bw.own_lt
  have HH := hid h
  have HB := hid hB
  have HW := hid hW
  have HXo := hid hx
  have HNn := hid hnn
  have HNu := hid hnu
  have HKl := hid hl
  have HG := hid (hg.later hB)
  have HGb := hid hgb
  have HSL := hid hs
  have HFar := hid hfar
  have HSn := hid hsn
  have hgl := hg.len
  have hgn : (x.gs.n : Int) ≤ 100000000 := by omega
  have HLn := hid hln
  obtain ⟨xop, xb, xsz, ⟨xo, xh, xl⟩, xgv, xrt, xoff, xnn, ⟨xda, xdn, xdc⟩, xix, ⟨xga, xgn, xgc⟩⟩ := x
  simp only at HX0 HW HLk HG HGb HSL HKl hgl hgn hL ⊢
  have HS : Hid (∀ U, Below W.heap.size W U → (U.rangeAt m.g 0 m.cells ∧ U.rangeAt w.heap.size 0 [.int .i64 xop, .int .i64 xb, .int .i64 xsz, .int .i64 xo, .int .u64 (xh : Int), .int .u64 (xl : Int), .bool xgv, .int .i64 xrt, .int .i64 xoff, .int .i64 xnn, .slice xda xdn xdc, .int .i64 xix, .slice xga xgn xgc] ∧ (Instr.lookup 61 (.map (some m.bi)) (.int .i64 xb) false).run Try.prog U = .ok (.slice sa sn sc) U)) := fun U hU => ⟨((HH.out.later HB.out).bw.bx.later hU).range, (HX0.out.later hU).range, HLk.out _ (below_call HB.out hU)⟩
  have HGl := hid hgl
  have HGn := hid hn
  clear h hB hW hx hnn hnu hl hg hgb hs hfar hn hln hsn hgl hL
  go_enter Try.func25, Try.ntmps25
  go_upto_region 1 with fail
  rw [← HW.out]
  refine wp_region_held_drew (S := (fun U : World => U.rangeAt m.g 0 m.cells ∧ U.rangeAt w.heap.size 0 [.int .i64 xop, .int .i64 xb, .int .i64 xsz, .int .i64 xo, .int .u64 (xh : Int), .int .u64 (xl : Int), .bool xgv, .int .i64 xrt, .int .i64 xoff, .int .i64 xnn, .slice xda xdn xdc, .int .i64 xix, .slice xga xgn xgc] ∧ (Instr.lookup 61 (.map (some m.bi)) (.int .i64 xb) false).run Try.prog U = .ok (.slice sa sn sc) U)) (by kernel_rfl) (HS.out _ (Below.refl _ _).drew) (fun hHeld => ?_)
  refine wpAnyH_norm (l2 := #[false, false, false, false, false, false, false, false]) (f2 := 8) (by kernel_rfl) (by kernel_rfl) ?_
  refine wpAnyH_take (i := 0) (oi := _) (v := ?_) rfl (by kernel_rfl) (by kernel_rfl) (by kernel_rfl) (fun _ _ _ h => h) (Or.inl ⟨by rfl, ?_⟩) (by assumption) ?_
  rotate_left
  · (intro w hSw; (try dsimp only at hSw); go_simp; try with_reducible rfl)
  simp only [List.getElem_toArray, List.getElem_cons_succ, List.getElem_cons_zero, Act.put, List.setIfInBounds_toArray, List.set_cons_zero, List.set_cons_succ]
  refine wpAnyH_norm (l2 := #[true, false, false, false, false, false, false, false]) (f2 := 7) (by kernel_rfl) (by kernel_rfl) ?_
  refine wpAnyH_take (i := 1) (oi := _) (v := ?_) rfl (by kernel_rfl) (by kernel_rfl) (by kernel_rfl) (fun _ _ _ h => h) (Or.inl ⟨by rfl, ?_⟩) (by assumption) ?_
  rotate_left
  · (intro w hSw; (try dsimp only at hSw); go_simp; try with_reducible rfl)
  simp only [List.getElem_toArray, List.getElem_cons_succ, List.getElem_cons_zero, Act.put, List.setIfInBounds_toArray, List.set_cons_zero, List.set_cons_succ]
  refine wpAnyH_norm (l2 := #[true, true, false, false, false, false, false, false]) (f2 := 6) (by kernel_rfl) (by kernel_rfl) ?_
  refine wpAnyH_take (i := 2) (oi := _) (v := ?_) rfl (by kernel_rfl) (by kernel_rfl) (by kernel_rfl) (fun _ _ _ h => h) (Or.inl ⟨by rfl, ?_⟩) (by assumption) ?_
  rotate_left
  · (intro w hSw; (try dsimp only at hSw); go_simp; try with_reducible rfl)
  simp only [List.getElem_toArray, List.getElem_cons_succ, List.getElem_cons_zero, Act.put, List.setIfInBounds_toArray, List.set_cons_zero, List.set_cons_succ]
  refine wpAnyH_norm (l2 := #[true, true, true, false, false, false, false, false]) (f2 := 5) (by kernel_rfl) (by kernel_rfl) ?_
  refine wpAnyH_take (i := 3) (oi := _) (v := ?_) rfl (by kernel_rfl) (by kernel_rfl) (by kernel_rfl) (fun _ _ _ h => h) (Or.inl ⟨by rfl, ?_⟩) (by assumption) ?_
  rotate_left
  · (intro w hSw; have z2 := rg_at (j := 2) hSw.1 rfl; go_simp; try with_reducible rfl)
  simp only [List.getElem_toArray, List.getElem_cons_succ, List.getElem_cons_zero, Act.put, List.setIfInBounds_toArray, List.set_cons_zero, List.set_cons_succ]
  refine wpAnyH_norm (l2 := #[true, true, true, true, false, false, false, false]) (f2 := 4) (by kernel_rfl) (by kernel_rfl) ?_
  refine wpAnyH_take (i := 4) (oi := _) (v := ?_) rfl (by kernel_rfl) (by kernel_rfl) (by kernel_rfl) (fun _ _ _ h => h) (Or.inl ⟨by rfl, ?_⟩) (by assumption) ?_
  rotate_left
  · (intro w hSw; (try dsimp only at hSw); go_simp; try with_reducible rfl)
  simp only [List.getElem_toArray, List.getElem_cons_succ, List.getElem_cons_zero, Act.put, List.setIfInBounds_toArray, List.set_cons_zero, List.set_cons_succ]
  refine wpAnyH_norm (l2 := #[true, true, true, true, true, false, false, false]) (f2 := 3) (by kernel_rfl) (by kernel_rfl) ?_
  refine wpAnyH_take (i := 5) (oi := _) (v := ?_) rfl (by kernel_rfl) (by kernel_rfl) (by kernel_rfl) (fun _ _ _ h => h) (Or.inl ⟨by rfl, ?_⟩) (by assumption) ?_
  rotate_left
  · (intro w hSw; have z1 := rg_at (j := 1) hSw.2.1 rfl; go_simp; try with_reducible rfl)
  simp only [List.getElem_toArray, List.getElem_cons_succ, List.getElem_cons_zero, Act.put, List.setIfInBounds_toArray, List.set_cons_zero, List.set_cons_succ]
  refine wpAnyH_norm (l2 := #[true, true, true, true, true, true, false, false]) (f2 := 2) (by kernel_rfl) (by kernel_rfl) ?_
  refine wpAnyH_take (i := 6) (oi := _) (v := .slice sa sn sc) rfl (by kernel_rfl) (by kernel_rfl) (by kernel_rfl) (fun _ _ _ h => h) (Or.inl ⟨by rfl, ?_⟩) (by assumption) ?_
  · (intro w hSw; (try dsimp only at hSw); exact ex_lk rfl rfl rfl hSw.2.2)
  simp only [List.getElem_toArray, List.getElem_cons_succ, List.getElem_cons_zero, Act.put, List.setIfInBounds_toArray, List.set_cons_zero, List.set_cons_succ]
  refine wpAnyH_norm (l2 := #[true, true, true, true, true, true, true, false]) (f2 := 1) (by kernel_rfl) (by kernel_rfl) ?_
  refine wpAnyH_take (i := 7) (oi := _) (v := ?_) rfl (by kernel_rfl) (by kernel_rfl) (by kernel_rfl) (fun _ _ _ h => h) (Or.inl ⟨by rfl, ?_⟩) (by assumption) ?_
  rotate_left
  · (intro w hSw; (try dsimp only at hSw); go_simp; try with_reducible rfl)
  simp only [List.getElem_toArray, List.getElem_cons_succ, List.getElem_cons_zero, Act.put, List.setIfInBounds_toArray, List.set_cons_zero, List.set_cons_succ]
  refine wpAnyH_norm (l2 := #[true, true, true, true, true, true, true, true]) (f2 := 0) (by kernel_rfl) (by kernel_rfl) ?_
  refine wpAnyH_done (by kernel_rfl) ?_ _
  obtain ⟨V, hV⟩ : ∃ V, V = W.drew := ⟨_, rfl⟩
  have HBV : Hid (Below w.heap.size w V) := by rw [hV]; exact HB.out.drew
  have HXa : Hid (Bx V w.heap.size [.int .i64 xop, .int .i64 xb, .int .i64 xsz, .int .i64 xo, .int .u64 (xh : Int), .int .u64 (xl : Int), .bool xgv, .int .i64 xrt, .int .i64 xoff, .int .i64 xnn, .slice xda xdn xdc, .int .i64 xix, .slice xga xgn xgc]) := by rw [hV]; exact HX0.out.later (Below.refl _ _).drew
  have HXb : Hid (Bx V (w.heap.size + 1) (rpL cd ⟨o, ch, cl⟩ d nu)) := by rw [hV]; exact HX1.out.later (Below.refl _ _).drew
  have HGv : Hid (RI V xga xgn xgc gs) := by rw [hV]; exact HG.out.later (Below.refl _ _).drew
  have HVl : Hid (w.heap.size + 1 < V.heap.size) := by rw [hV]; exact HXl.out
  have HHv := hid (HH.out.later HBV.out)
  rw [← hV]
  clear hV HX0 HX1 HG HS HLk HXl HB HW
  have x12 := HXa.out.cell 12 rfl
  go_upto_region 4 with fail
  clear x12
  go_loopw [23, 7] (SpRel V m L xb nu B gs) (fun i _ _ => gs.length - ivN i)
  case atStart => exact ⟨0, none, 0, m, rfl, Nat.zero_le _, rfl, HHv.out, Tr.refl _ _, rfl, Ow.nil _ _ _ _, fun j hj => by obtain ⟨y, hy, _⟩ := hj; cases hy⟩
  case round =>
    obtain ⟨k, la, lc, m1, rfl, hk, rfl, hb1, ht1, hI1, ho1, hd1⟩ := hrel
    have HB1 := hid hb1
    have HT1 := hid ht1
    have HI1 := hid hI1
    have HO1 := hid ho1
    have HD1 := hid hd1
    have HXa1 := hid (HXa.out.but ht1.bt (fun hj => by have := HLt.out _ hj; omega))
    have HXb1 := hid (HXb.out.but ht1.bt (fun hj => by have := HLt.out _ hj; omega))
    have HOb : Hid (∀ j, Owb m1 j → j ≠ w.heap.size ∧ j ≠ w.heap.size + 1) := fun j hj => by
      have h2 := HVl.out
      rcases ht1.gr j hj with h1 | h1
      · have := HLt.out _ h1; omega
      · omega
    have HGl1 := hid ht1.g
    clear hb1 ht1 hI1 ho1 hd1
    by_cases hkN : k < gs.length
    · have hkx : (k : Int) < (xgn : Int) := by have := HGl.out; omega
      have hlt : decide ((k : Int) < (xgn : Int)) = true := by simp; omega
      obtain ⟨g, hgk⟩ : ∃ g, gs[k]? = some g := ⟨_, List.getElem?_eq_getElem hkN⟩
      have HGk := hid hgk
      have hg1 := HGv.out.but HT1.out.bt (fun j hj hs => (HGb.out j hj).2 hs)
      obtain ⟨gb, gq, hgeq, hgc⟩ := hg1.plain (by have := HGl.out; omega)
      have hgx := hgc k hkN
      have hgx2 : wr.cell? ⟨gb, gq + k, none⟩ = some (.int .i64 g) := by rw [hgx]; rw [← (List.getElem?_eq_some_iff.1 hgk).2]
      subst hgeq
      have HStp := hid (spV_take L xb nu B gs k g hgk)
      clear hgk hgc hgx hg1
      by_cases hgi : 0 ≤ g ∧ g < (sn : Int)
      · obtain ⟨gn, rfl⟩ : ∃ gn : Nat, g = (gn : Int) := ⟨g.toNat, by omega⟩
        have hgd : decide (0 ≤ (gn : Int) ∧ (gn : Int) < (sn : Int)) = true := decide_eq_true hgi
        obtain ⟨⟨c0o, c0h, c0l⟩, hc0⟩ : ∃ c0, L[gn]? = some c0 := ⟨_, List.getElem?_eq_getElem (by have := HSn.out; omega)⟩
        have HC0 := hid (HFar.out _ (List.mem_of_getElem? hc0))
        have hSL1 : Lsl m1.I xb ⟨sa, sn, sc⟩ L := by rw [HI1.out]; exact HSL.out
        have hok := (HB1.out.bw.lists.look HXo.out.b hSL1).2.1
        obtain ⟨sb, hsb⟩ := hok.some_of (by simp only; omega)
        simp only at hsb
        subst hsb
        have r0 := hok.cells rfl
        obtain ⟨q0, q1, q2⟩ := capsL_at hc0
        have z0 := rg_at r0 q0
        have z1 := rg_at r0 q1
        have z2 := rg_at r0 q2
        have hgi2 : (gn : Int) < (sn : Int) := hgi.2
        have HStp2 : Hid (spV L xb nu B (gs.take (k + 1)) = ((spV L xb nu B (gs.take k)).1 ++ [⟨c0o, c0h, c0l⟩], match tgV (spV L xb nu B (gs.take k)).2 xb ⟨c0o, c0h, c0l⟩ with | some ls => tellV (spV L xb nu B (gs.take k)).2 4 xb nu ⟨c0o, c0h, c0l⟩ ls | none => (spV L xb nu B (gs.take k)).2)) := by
          unfold Hid
          rw [HStp.out]
          unfold spS
          rw [if_pos ⟨by omega, by have := HSn.out; omega⟩]
          simp only [Int.toNat_natCast]
          rw [hc0]
          rfl
        have HSpn := hid (spV_n L xb nu B (gs.take k))
        have HLk1 : Hid (((spV L xb nu B (gs.take k)).2.known nu).length + 1 ≤ 1000000000 ∧ (spV L xb nu B (gs.take k)).1.length + 1 ≤ 1000000000 ∧ I64 (spV L xb nu B (gs.take k)).2.n) := by
          obtain ⟨a1, a2, a3, a4, a5, a6, a7⟩ := HSpn.out
          have h1 := a5 nu
          rw [List.length_take] at h1 a6
          have h2 := HKl.out
          have h3 := HGn.out
          exact ⟨by omega, by omega, by rw [a1]; exact HNn.out⟩
        clear hok r0 q0 q1 q2 hc0 hSL1 HStp HSpn
        generalize hS2 : spV L xb nu B (gs.take (k + 1)) = S2 at HStp2
        have HStp0 := hid hS2.symm
        clear hS2
        generalize spV L xb nu B (gs.take k) = S1 at HB1 HO1 HStp2 HLk1 ⊢
        obtain ⟨S1l, S1b⟩ := S1
        simp only at HB1 HO1 HStp2 HLk1 ⊢
        go_upto_region 8 with (first | (go_at_call 42; refine (isPlace_any _ _ _ _ _).mono ?_; rintro e w' ⟨rfl, hw'⟩; obtain rfl := hw'.symm; clear hw'))
        clear z0 z1 z2 hgx2
        obtain ⟨V1, hV1⟩ : ∃ V1, V1 = wr.alloc (Obj.cells #[.int .i64 c0o, .int .u64 (c0h : Int), .int .u64 (c0l : Int)] 31) := ⟨_, rfl⟩
        rw [← hV1]
        obtain ⟨kx, hkx2⟩ : ∃ k, k = wr.heap.size := ⟨_, rfl⟩
        rw [← hkx2]
        have hbe1 : Below wr.heap.size wr V1 := by rw [hV1]; exact below1 _ _
        have HXc : Hid (Bx V1 kx [.int .i64 c0o, .int .u64 (c0h : Int), .int .u64 (c0l : Int)]) := by rw [hkx2, hV1]; exact Bx.new wr [.int .i64 c0o, .int .u64 (c0h : Int), .int .u64 (c0l : Int)] _
        have HBe1 := hid hbe1
        obtain ⟨a', c', w7, r7, o7, b7, n7⟩ := ow_snoc9 26 31 _ 3 24 Try.underlying26 infoC3 rfl (by omega) (w := V1) (cs := [.int .i64 c0o, .int .u64 (c0h : Int), .int .u64 (c0l : Int)]) (HO1.out.later hbe1) rfl (one3 _ _ _) (Nat.le_trans HT1.out.bt.size hbe1.size) HLk1.out.2.1 (by omega)
        have hkxl : kx < V1.heap.size := HXc.out.lt (by simp)
        have HB7 : Hid (Bk w7 m1 S1b) := (HB1.out.later hbe1).row (HO1.out.later hbe1) HD1.out b7
        have HR7 : Hid ((Builtin.append_ #[26, 26] 26 #[.slice la S1l.length lc, .slice (some ⟨V1.heap.size, 0, none⟩) 1 1]).run Try.prog (V1.alloc (Obj.cells #[.int .i64 c0o, .int .u64 (c0h : Int), .int .u64 (c0l : Int)] 31)) = .ok (.slice a' (S1l.length + 1) c') w7) := r7
        have HO7 : Hid (Ow w7 V.heap.size 31 3 a' (S1l.length + 1) c' (capsL (S1l ++ [⟨c0o, c0h, c0l⟩]))) := by unfold Hid; simpa [capsL, encC] using o7
        have hlaV : ∀ j, Blk la j → V.heap.size ≤ j ∧ j < wr.heap.size := fun j hj => HO1.out.blk j hj
        have HD7 : Hid (∀ j, Blk a' j → ¬ Owb m1 j) := fun j hj hs => by
          rcases n7 j hj with h1 | h1
          · exact HD1.out j h1 hs
          · have h2 := HB1.out.bw.own_lt j hs
            have h3 := hbe1.size
            omega
        have HT7 : Hid (But (fun j => V.heap.size ≤ j) wr w7) := (But.of hbe1).trans (b7.mono (fun j hj => (hlaV j hj).1))
        have HXa7 := hid (HXa1.out.but HT7.out (fun hj => by have := HVl.out; omega))
        have HXb7 : Hid (Bx w7 (w.heap.size + 1) (rpL cd ⟨o, ch, cl⟩ d nu)) := HXb1.out.but HT7.out (fun hj => by have := HVl.out; omega)
        have HXc7 : Hid (Bx w7 kx [.int .i64 c0o, .int .u64 (c0h : Int), .int .u64 (c0l : Int)]) := HXc.out.but b7 (fun hj => by have := (hlaV kx hj).2; omega)
        have HTr7 : Hid (Tr V w7 m m1) := ⟨HT1.out.g, HT1.out.bt.comp HT7.out (fun j hj => .inr hj), HT1.out.gr⟩
        clear hbe1 r7 o7 b7 n7 hkx2 hV1 hkxl hlaV
        have c0 := HXc.out.cell 0 rfl
        have c1 := HXc.out.cell 1 rfl
        have c2 := HXc.out.cell 2 rfl
        go_upto_region 9 with (first | (at_builtin; refine wpList_append_known rfl _ _ 26 rfl _ _ rfl rfl _ w7 HR7.out ?_))
        clear c0 c1 c2
        have c0 := HXc7.out.cell 0 rfl
        have c1 := HXc7.out.cell 1 rfl
        have c2 := HXc7.out.cell 2 rfl
        have x1 := HXa7.out.cell 1 rfl
        obtain ⟨at_, htl0, hls0, hcal⟩ := telling_bk m1 S1b xb ⟨c0o, c0h, c0l⟩ w7 HB7.out HC0.out HXo.out.b
        rw [HGl1.out] at hcal
        have HTa := hid htl0
        have HLs := hid hls0
        have HTl := hid (hcal w7 (Below.refl _ _))
        clear htl0 hls0 hcal
        have HTe : Hid (∀ ls U, tgV S1b xb ⟨c0o, c0h, c0l⟩ = some ls → Below w7.heap.size w7 U → Calls Try.prog 34 #[.pointer (some ⟨m.g, 0, none⟩), lkV 0 4 xb nu ⟨c0o, c0h, c0l⟩, .pointer at_] U fun e w' => e = .returned (.tuple #[]) ∧ ∃ m', Bk w' m' (tellV S1b 4 xb nu ⟨c0o, c0h, c0l⟩ ls) ∧ Tr U w' m1 m' ∧ m'.I = m1.I) := fun ls U e hU => by
          have h1 := HTa.out
          have h2 := HLs.out
          rw [e] at h1 h2
          have := tell_keep m1 S1b 0 4 xb nu ⟨c0o, c0h, c0l⟩ at_ ls U (HB7.out.later hU) HC0.out HNu.out HXo.out.b (by constructor <;> omega) HLk1.out.2.2 (h1.later hU) h2 HLk1.out.1
          rwa [HGl1.out] at this
        clear HTa HLs
        generalize htg : tgV S1b xb ⟨c0o, c0h, c0l⟩ = tg at HTl HTe HStp2
        cases tg with
        | none =>
          go_upto_region 10 with (first | (go_at_call 27; refine HTl.out.mono ?_; rintro e w8 ⟨rfl, hb8⟩; have HB8 := hid hb8; clear hb8))
          clear c0 c1 c2 x1
          go_wp2
          refine ⟨⟨k + 1, a', c', m1, rfl, by omega, ?_⟩, by simp [ivN]; omega⟩
          rw [← HStp0.out, HStp2.out]
          simp only [List.length_append, List.length_singleton]
          exact ⟨by trivial, HB7.out.later HB8.out, HTr7.out.later HB8.out, HI1.out, HO7.out.later HB8.out, HD7.out⟩
        | some ls =>
          have HTe2 := hid (fun U hU => HTe.out ls U rfl hU)
          go_upto_region 10 with (first | (go_at_call 27; refine HTl.out.mono ?_; rintro e w8 ⟨rfl, hb8⟩; have HB8 := hid hb8; clear hb8))
          clear c0 c1 c2 x1
          have HXc8 := hid (HXc7.out.later HB8.out)
          have HXa8 := hid (HXa7.out.later HB8.out)
          have HXb8 := hid (HXb7.out.later HB8.out)
          have c0 := HXc8.out.cell 0 rfl
          have c1 := HXc8.out.cell 1 rfl
          have c2 := HXc8.out.cell 2 rfl
          have x1 := HXa8.out.cell 1 rfl
          have y5 := HXb8.out.cell 5 rfl
          go_wp2_with (first | (go_at_call 34; refine (HTe2.out _ HB8.out).mono ?_; rintro e w9 ⟨rfl, m2, hb2, ht2, hI2⟩; have HB2 := hid hb2; have HT2 := hid ht2; have HI2 := hid hI2; clear hb2 ht2 hI2))
          refine ⟨⟨k + 1, a', c', m2, rfl, by omega, ?_⟩, by simp [ivN]; omega⟩
          rw [← HStp0.out, HStp2.out]
          simp only [List.length_append, List.length_singleton]
          refine ⟨by trivial, HB2.out, (HTr7.out.later HB8.out).trans HT2.out, HI2.out.trans HI1.out, (HO7.out.later HB8.out).but HT2.out.bt (fun j hj hs => HD7.out j hj hs), fun j hj hs => ?_⟩
          rcases HT2.out.gr j hs with h1 | h1
          · exact HD7.out j hj h1
          · have h2 := (HO7.out.blk j hj).2
            have h3 := HB8.out.size
            omega
      · have hgd : decide (0 ≤ g ∧ g < (sn : Int)) = false := decide_eq_false hgi
        have HStp2 : Hid (spV L xb nu B (gs.take (k + 1)) = spV L xb nu B (gs.take k)) := by
          unfold Hid
          rw [HStp.out]
          unfold spS
          rw [if_neg (by have := HSn.out; rw [this]; exact hgi)]
        clear HStp
        generalize hS2 : spV L xb nu B (gs.take (k + 1)) = S2 at HStp2
        have HS2 := hid hS2
        clear hS2
        generalize spV L xb nu B (gs.take k) = S1 at HB1 HO1 HStp2 ⊢
        go_wp2_with (first | (go_at_call 42; refine (isPlace_any _ _ _ _ _).mono ?_; rintro e w' ⟨rfl, hw'⟩; obtain rfl := hw'.symm; clear hw'))
        refine ⟨⟨k + 1, la, lc, m1, rfl, by omega, ?_⟩, by simp [ivN]; omega⟩
        rw [HS2.out, HStp2.out]
        exact ⟨rfl, HB1.out, HT1.out, HI1.out, HO1.out, HD1.out⟩
    · obtain rfl : xgn = k := by have := HGl.out; omega
      have hlt : decide ((xgn : Int) < (xgn : Int)) = false := by simp
      have hfull : gs.take xgn = gs := List.take_of_length_le (by omega)
      rw [hfull] at HB1 HO1
      simp only [hfull]
      clear hfull
      obtain ⟨a1, a2, a3, a4, a5, a6, a7⟩ := spV_n L xb nu B gs
      obtain ⟨s0, l0, hs0⟩ := Lsl.some_of m1.I nu
      have hml : m1.g < V.heap.size := by rw [HT1.out.g]; have := HH.out.bw.lo m.g (by simp); have := HVl.out; omega
      obtain ⟨w8, m2, r8, hb8, hg8, ht8, hgr8, hcl8, ht7⟩ := (HB1.out.drew).lists_set (S := fun _ => False) HNu.out (s' := ⟨la, (spV L xb nu B gs).1.length, lc⟩) (l' := (spV L xb nu B gs).1) hs0 (But.refl _ _) (fun j hj => hj.elim) ((HO1.out.later (Below.refl _ _).drew).mono (by omega)) rfl (fun c hc => HFar.out c (a7 c hc)) (fun j hj => .inr (HD1.out j hj))
      have HR8 := hid r8
      have HFin : Hid (∃ m', Bk w8 m' { (spV L xb nu B gs).2 with lists := up1 (spV L xb nu B gs).2.lists nu (spV L xb nu B gs).1 } ∧ Tr V w8 m m') := ⟨m2, hb8, hg8.trans HT1.out.g, (HT1.out.bt.comp (But.of (Below.refl _ _).drew) (fun _ h => h)).comp ht8 (fun j hj => HT1.out.gr j hj), fun j hj => by
        rcases hgr8 j hj with h1 | h1
        · exact HT1.out.gr j h1
        · exact .inr (HO1.out.blk j h1).1⟩
      have HS9 : Hid (∀ U, Below wr.heap.size wr U → (U.rangeAt m.g 0 m1.cells ∧ U.rangeAt (w.heap.size + 1) 0 (rpL cd ⟨o, ch, cl⟩ d nu))) := fun U hU => ⟨by have := (HB1.out.bw.bx.later hU).range; rwa [HGl1.out] at this, (HXb1.out.later hU).range⟩
      have HSe : Hid (w8.rangeAt m.g 0 m1.cells ∧ w8.rangeAt (w.heap.size + 1) 0 (rpL cd ⟨o, ch, cl⟩ d nu)) := ⟨by have := hb8.bw.bx.range; rw [hcl8, hg8, HGl1.out] at this; exact this, (HXb1.out.but ((But.of (Below.refl _ _).drew).trans ht8) (fun hj => (HOb.out _ hj).2 rfl)).range⟩
      clear r8 hb8 hg8 ht8 hgr8 hcl8 ht7 a1 a2 a3 a4 a5 a6 a7 hs0 hml
      go_upto_region 13 with fail
      refine wp_region_held_drew (S := (fun U : World => U.rangeAt m.g 0 m1.cells ∧ U.rangeAt (w.heap.size + 1) 0 (rpL cd ⟨o, ch, cl⟩ d nu))) (by kernel_rfl) (HS9.out _ (Below.refl _ _).drew) (fun hHeld => ?_)
      refine wpAnyH_norm (l2 := #[false, false, false, false, false, false, false, false]) (f2 := 8) (by kernel_rfl) (by kernel_rfl) ?_
      refine wpAnyH_take (i := 0) (oi := _) (v := ?_) rfl (by kernel_rfl) (by kernel_rfl) (by kernel_rfl) (fun _ _ _ h => h) (Or.inl ⟨by rfl, ?_⟩) (by assumption) ?_
      rotate_left
      · (intro w hSw; (try dsimp only at hSw); go_simp; try with_reducible rfl)
      simp only [List.getElem_toArray, List.getElem_cons_succ, List.getElem_cons_zero, Act.put, List.setIfInBounds_toArray, List.set_cons_zero, List.set_cons_succ]
      refine wpAnyH_norm (l2 := #[true, false, false, false, false, false, false, false]) (f2 := 7) (by kernel_rfl) (by kernel_rfl) ?_
      refine wpAnyH_take (i := 1) (oi := _) (v := ?_) rfl (by kernel_rfl) (by kernel_rfl) (by kernel_rfl) (fun _ _ _ h => h) (Or.inl ⟨by rfl, ?_⟩) (by assumption) ?_
      rotate_left
      · (intro w hSw; (try dsimp only at hSw); go_simp; try with_reducible rfl)
      simp only [List.getElem_toArray, List.getElem_cons_succ, List.getElem_cons_zero, Act.put, List.setIfInBounds_toArray, List.set_cons_zero, List.set_cons_succ]
      refine wpAnyH_norm (l2 := #[true, true, false, false, false, false, false, false]) (f2 := 6) (by kernel_rfl) (by kernel_rfl) ?_
      refine wpAnyH_take (i := 2) (oi := _) (v := ?_) rfl (by kernel_rfl) (by kernel_rfl) (by kernel_rfl) (fun _ _ _ h => h) (Or.inl ⟨by rfl, ?_⟩) (by assumption) ?_
      rotate_left
      · (intro w hSw; (try dsimp only at hSw); go_simp; try with_reducible rfl)
      simp only [List.getElem_toArray, List.getElem_cons_succ, List.getElem_cons_zero, Act.put, List.setIfInBounds_toArray, List.set_cons_zero, List.set_cons_succ]
      refine wpAnyH_norm (l2 := #[true, true, true, false, false, false, false, false]) (f2 := 5) (by kernel_rfl) (by kernel_rfl) ?_
      refine wpAnyH_take (i := 3) (oi := _) (v := ?_) rfl (by kernel_rfl) (by kernel_rfl) (by kernel_rfl) (fun _ _ _ h => h) (Or.inl ⟨by rfl, ?_⟩) (by assumption) ?_
      rotate_left
      · (intro w hSw; have z2 := rg_at (j := 2) hSw.1 rfl; go_simp; try with_reducible rfl)
      simp only [List.getElem_toArray, List.getElem_cons_succ, List.getElem_cons_zero, Act.put, List.setIfInBounds_toArray, List.set_cons_zero, List.set_cons_succ]
      refine wpAnyH_norm (l2 := #[true, true, true, true, false, false, false, false]) (f2 := 4) (by kernel_rfl) (by kernel_rfl) ?_
      refine wpAnyH_take (i := 4) (oi := _) (v := ?_) rfl (by kernel_rfl) (by kernel_rfl) (by kernel_rfl) (fun _ _ _ h => h) (Or.inl ⟨by rfl, ?_⟩) (by assumption) ?_
      rotate_left
      · (intro w hSw; (try dsimp only at hSw); go_simp; try with_reducible rfl)
      simp only [List.getElem_toArray, List.getElem_cons_succ, List.getElem_cons_zero, Act.put, List.setIfInBounds_toArray, List.set_cons_zero, List.set_cons_succ]
      refine wpAnyH_norm (l2 := #[true, true, true, true, true, false, false, false]) (f2 := 3) (by kernel_rfl) (by kernel_rfl) ?_
      refine wpAnyH_take (i := 5) (oi := _) (v := ?_) rfl (by kernel_rfl) (by kernel_rfl) (by kernel_rfl) (fun _ _ _ h => h) (Or.inl ⟨by rfl, ?_⟩) (by assumption) ?_
      rotate_left
      · (intro w hSw; have z5 := rg_at (j := 5) hSw.2 rfl; go_simp; try with_reducible rfl)
      simp only [List.getElem_toArray, List.getElem_cons_succ, List.getElem_cons_zero, Act.put, List.setIfInBounds_toArray, List.set_cons_zero, List.set_cons_succ]
      refine wpAnyH_norm (l2 := #[true, true, true, true, true, true, false, false]) (f2 := 2) (by kernel_rfl) (by kernel_rfl) ?_
      refine wpAnyH_take (i := 6) (oi := _) (v := ?_) rfl (by kernel_rfl) (by kernel_rfl) (by kernel_rfl) (fun _ _ _ h => h) (Or.inl ⟨by rfl, ?_⟩) (by assumption) ?_
      rotate_left
      · (intro w hSw; (try dsimp only at hSw); go_simp; try with_reducible rfl)
      simp only [List.getElem_toArray, List.getElem_cons_succ, List.getElem_cons_zero, Act.put, List.setIfInBounds_toArray, List.set_cons_zero, List.set_cons_succ]
      refine wpAnyH_norm (l2 := #[true, true, true, true, true, true, true, false]) (f2 := 1) (by kernel_rfl) (by kernel_rfl) ?_
      refine wpAnyH_ready (rs := [7]) (by kernel_rfl) (by simp) ?_
      refine AllReadyH.cons rfl (fun K hK => ?_) AllReadyH.nil
      refine wp_upd rfl rfl rfl rfl HR8.out ?_
      refine hK.out _ _ (HSe.out) (fun hHeld => ?_)
      clear hK K
      simp only [List.getElem_toArray, List.getElem_cons_succ, List.getElem_cons_zero, Act.put, List.setIfInBounds_toArray, List.set_cons_zero, List.set_cons_succ]
      refine wpAnyH_norm (l2 := #[true, true, true, true, true, true, true, true]) (f2 := 0) (by kernel_rfl) (by kernel_rfl) ?_
      refine wpAnyH_done (by kernel_rfl) ?_ _
      go_wp2
      exact bodyPost_end (v := .tuple #[]) (by simp [results, Try.results25, go_sem]) rfl ⟨rfl, by obtain ⟨m9, h8, h9⟩ := HFin.out; exact ⟨m9, h8, Tr.fore HBV.out h9⟩⟩
end Go.Proofs.Yticgammbjcdobaa
