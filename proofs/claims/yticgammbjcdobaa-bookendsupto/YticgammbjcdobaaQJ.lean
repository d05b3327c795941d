import Derived.Test.YticgammbjcdobaaQH
import Derived.Deep.CutBlock
import Derived.Deep.DeepCutAuto
namespace Go.Proofs.Yticgammbjcdobaa
open Go.RowKit
set_option linter.unusedVariables false
set_option linter.unusedSimpArgs false
theorem Row.rg {w : World} {b o n c : Nat} {L : List Nat} (h : Row w (some ⟨b, o, none⟩) n c L) (k : Nat) : w.rangeAt b (o + k) (u8s ((L.drop k).take 24)) := fun j v hv => by
  have hj := (List.getElem?_eq_some_iff.1 hv).1
  rw [u8s_length, List.length_take, List.length_drop] at hj
  have hkj : k + j < L.length := by omega
  have := h.cells _ rfl (k + j) _ (u8s_get L (k + j) hkj)
  rw [addr_add, ← Nat.add_assoc] at this
  rw [this]
  rw [u8s_get _ j (by rw [List.length_take, List.length_drop]; omega)] at hv
  rw [← hv]
  simp [List.getElem_take, List.getElem_drop]
/-- What was told by a form, as the program finds it. -/
theorem told_look (m : Bm) (B : Bv) (p : Int) (F : List Nat) (w : World) (h : Bk w m B) (hp : I64 p) (hl : F.length = 24) (hs : ∀ x ∈ F, x < 256) :
    ∃ v, (∀ U, Below w.heap.size w U → Calls Try.prog 40 #[.map (some m.bt), .int .i64 p, fmV F] U fun e w' => e = .returned (.tuple #[.pointer v, .bool (B.told p F).isSome]) ∧ Below U.heap.size U w') ∧ ∀ ls, B.told p F = some ls → RT w (.pointer v) ls := by
  rcases h.told.look p F (fun j _ e => fmV_inj e) with ⟨hn, hg⟩ | ⟨a, v, hsm, hr, hg⟩
  · rw [hn]
    exact ⟨none, fun U hU => lookF_any m.bt m.T p F none U (h.bw.later hU).told hp hl hs hg, fun ls e => by cases e⟩
  · rw [hsm]
    obtain ⟨k, rfl, h1, h2⟩ := hr
    exact ⟨_, fun U hU => lookF_any m.bt m.T p F _ U (h.bw.later hU).told hp hl hs hg, fun ls e => by cases e; exact ⟨k, rfl, h1, h2⟩⟩
theorem Kept.bx {w w' : World} {m : Bm} (h : Bw w m) {p : Int} {k v : Value} (hk : Kept 3 w w' m.ba m.A p k v) : Bx w' m.g m.cells := by
  obtain ⟨G', h1, h2, h3, h4, _⟩ := hk
  exact h.bx.but h4 (fun hj => (g_ne h.dis).2.2.2.2 _ hj rfl)
theorem wrap_eq (x : Int) : wrap64 x = IntKind.i64.wrap x := by unfold wrap64; rw [IntKind.wrap_i64]
/-- A place that is written over. -/
def dlS (obj i : Int) (B : Bv) : Bv := { B with laid := up2 B.laid obj i none }
def dlV (obj off : Int) (B : Bv) : Nat → Bv
  | 0 => B
  | k + 1 => dlS obj (wrap64 (wrap64 (off - 23) + (k : Int))) (dlV obj off B k)
theorem dlV_n (obj off : Int) (B : Bv) (k : Nat) : (dlV obj off B k).n = B.n ∧ (dlV obj off B k).told = B.told ∧ (dlV obj off B k).lists = B.lists ∧ (dlV obj off B k).known = B.known ∧ (dlV obj off B k).live = B.live := by
  induction k with
  | zero => exact ⟨rfl, rfl, rfl, rfl, rfl⟩
  | succ k ih => exact ih
theorem laid_del (m : Bm) (B : Bv) (p i : Int) (w : World) (h : Bk w m B) (hp : I64 p) (hi : I64 i) :
    ∃ mv w' m', (∀ U, Below w.heap.size w U → (Instr.lookup 62 (.map (some m.ba)) (.int .i64 p) false).run Try.prog U = .ok (.map mv) U) ∧ (Builtin.delete_ #[93, 3] 0 #[.map mv, .int .i64 i]).run Try.prog w = .ok (.tuple #[]) w' ∧ Bk w' m' (dlS p i B) ∧ Tr w w' m m' ∧ m'.cells = m.cells ∧ (Instr.lookup 62 (.map (some m.ba)) (.int .i64 p) false).run Try.prog w' = .ok (.map mv) w' := by
  by_cases hx : ∃ g ∈ m.A, g.p = p
  · obtain ⟨g, hg, rfl⟩ := hx
    obtain ⟨w', G', r, m2, e2, hin, b2, _⟩ := h.bw.laid.del ikey Try.underlying93 hg (kint hi) 0 3
    have hS : ∀ j, j = g.b → j ∈ blG m.ba m.A := fun j e => by subst e; exact List.mem_cons_of_mem _ (List.mem_map.2 ⟨g, hg, rfl⟩)
    obtain ⟨k1, t1⟩ := h.laid_to b2 hS m2 (fun x hx => .inl (by rw [← e2]; exact List.mem_map.2 ⟨x, hx, rfl⟩)) ((h.laid.mono (fun v a hr => hr.but h.bw (b2.mono (fun j hj => .inl (by rw [blks_a]; exact List.mem_append.2 (.inr (List.mem_append.2 (.inl (hS j hj)))) : _ ∈ _))) (fun _ h => h))).del hin (fun j e => ik_inj e))
    exact ⟨some g.b, w', _, fun U hU => (h.bw.laid.later hU).out.hit ikey Try.underlying62 (List.mem_map.2 ⟨g, hg, rfl⟩) false, r, k1, t1, rfl, (h.bw.laid.out.but b2 (fun e => (List.nodup_cons.1 h.bw.laid.dis).1 (by rw [e]; exact List.mem_map.2 ⟨g, hg, rfl⟩))).hit ikey Try.underlying62 (List.mem_map.2 ⟨g, hg, rfl⟩) false⟩
  · have hn : ∀ g ∈ m.A, g.p ≠ p := fun g hg e => hx ⟨g, hg, e⟩
    have e : dlS p i B = B := by
      have : up2 B.laid p i none = B.laid := by
        funext q j
        unfold up2
        split
        · rename_i e
          cases hb : B.laid q j with
          | none => rfl
          | some a =>
            obtain ⟨x, ⟨g, hg, e2, _⟩, _⟩ := h.laid.bwd q j a hb
            exact absurd (e2.trans e.1) (hn g hg)
        · rfl
      unfold dlS
      rw [this]
    rw [e]
    have hlk : ∀ U, Below w.heap.size w U → (Instr.lookup 62 (.map (some m.ba)) (.int .i64 p) false).run Try.prog U = .ok (.map none) U := fun U hU => (h.bw.laid.later hU).out.miss ikey Try.underlying62 (kint hp) (fun x hx => by
      obtain ⟨g, hg, rfl⟩ := List.mem_map.1 hx
      intro e
      simp at e
      exact hn g hg e) (zLaid U) false
    exact ⟨none, w, m, hlk, nil_del w ikey Try.underlying93 (kint hi) 0 3, h, Tr.refl _ _, rfl, hlk w (Below.refl _ _)⟩
/-- A write's capabilities, one place behind the other. -/
def wrS (b obj off : Int) (bs : List Nat) (B : Bv) (k : Nat) : Bv := match B.told b ((bs.drop k).take 24) with
  | some ls => { B with laid := up2 B.laid obj (wrap64 (off + (k : Int))) (some ls) }
  | none => B
def wrV (b obj off : Int) (bs : List Nat) (B : Bv) : Nat → Bv
  | 0 => B
  | k + 1 => wrS b obj off bs (wrV b obj off bs B k) k
theorem wrV_n (b obj off : Int) (bs : List Nat) (B : Bv) (k : Nat) : (wrV b obj off bs B k).n = B.n ∧ (wrV b obj off bs B k).told = B.told ∧ (wrV b obj off bs B k).lists = B.lists ∧ (wrV b obj off bs B k).known = B.known ∧ (wrV b obj off bs B k).live = B.live := by
  induction k with
  | zero => exact ⟨rfl, rfl, rfl, rfl, rfl⟩
  | succ k ih =>
    unfold wrV wrS
    split <;> exact ih
def DlRel (W : World) (m : Bm) (obj off : Int) (B : Bv) (N : Nat) (v : Value) (U : World) : Prop := ∃ k : Nat, v = .int .i64 (k : Int) ∧ k ≤ N ∧ ∃ m', Bk U m' (dlV obj off B k) ∧ Tr W U m m'
def WrRel (W : World) (m : Bm) (b obj off : Int) (bs : List Nat) (B : Bv) (N : Nat) (v : Value) (U : World) : Prop := ∃ k : Nat, v = .int .i64 (k : Int) ∧ k ≤ N ∧ ∃ m', Bk U m' (wrV b obj off bs B k) ∧ Tr W U m m'
/-- What a write leaves behind. -/
def writV (x : Cq) (bs : List Nat) (B : Bv) : Bv := if bs.length = 0 then B else wrV x.b x.c.o x.off bs (dlV x.c.o x.off B (23 + bs.length)) (bs.length - 23)
set_option maxRecDepth 100000 in
set_option maxHeartbeats 8000000 in
theorem written_bk (m : Bm) (B : Bv) (x : Cq) (bs : List Nat) (w : World) (h : Bk w m B) (hx : x.ok) (hr : Row w x.d.a x.d.n x.d.c bs) (hd : ∀ j, Blk x.d.a j → j < w.heap.size ∧ ¬ Owb m j) (hn : bs.length ≤ 100000000) (hcap : x.d.c ≤ 9223372036854775807) :
    Calls Try.prog 23 #[.pointer (some ⟨m.g, 0, none⟩), x.v] w fun e w' => e = .returned (.tuple #[]) ∧ ∃ m', Bk w' m' (writV x bs B) ∧ Tr w w' m m' := by
  obtain ⟨W, hW⟩ : ∃ W, W = w.alloc (Obj.cells x.L.toArray 36) := ⟨_, rfl⟩
  have hB : Below w.heap.size w W := by rw [hW]; exact below1 _ _
  have HX0 : Hid (Bx W w.heap.size x.L) := by rw [hW]; exact Bx.new w x.L _
  have HBW := hid (h.later hB)
  have HLt := hid h.bw.own_lt
  have HB := hid hB
  have HW := hid hW
  have HXl : Hid (w.heap.size < W.heap.size) := HX0.out.lt (by simp)
  have HXo := hid hx
  have HRw := hid (hr.later hB)
  have HDt := hid hd
  have hlen := hr.len
  have hc0 := hr.cap_
  obtain ⟨xop, xb, xsz, ⟨xo, xh, xl⟩, xgv, xrt, xoff, xnn, ⟨xda, xdn, xdc⟩, xix, ⟨xga, xgn, xgc⟩⟩ := x
  simp only at HX0 HW HRw HDt hlen hc0 hcap ⊢
  unfold writV
  rw [hlen] at hn ⊢
  have HLe := hid hlen
  have hc1 : (xdn : Int) ≤ (xdc : Int) := by omega
  have x10 := HX0.out.cell 10 rfl
  clear h hB hW hx hr hd hlen
  by_cases h0 : xdn = 0
  · rw [if_pos h0]
    subst h0
    go_enter Try.func23, Try.ntmps23
    go_upto_region 1 with fail
    rw [← HW.out]
    go_wp2
    exact bodyPost_ret (v := .tuple #[]) (by simp [results, Try.results23, go_sem]) rfl ⟨rfl, m, HBW.out, Tr.fore HB.out (Tr.refl _ _)⟩
  · rw [if_neg h0]
    have h0' : ((xdn : Int) == 0) = false := by simp; omega
    have x3 := HX0.out.cell 3 rfl
    simp only
    obtain ⟨N, hN⟩ : ∃ N, N = xdn - 23 := ⟨_, rfl⟩
    rw [← hN]
    have HNe := hid hN
    clear hN
    go_enter Try.func23, Try.ntmps23
    go_upto_region 1 with fail
    rw [← HW.out]
    go_upto_region 4 with fail
    go_upto_block 0 with fail
    clear x10 x3
    go_cut [4, 5] (fun a b U => a = .int .i64 xo ∧ b = .int .i64 23 ∧ ∃ m', Bk U m' (dlV xo xoff B (23 + xdn)) ∧ Tr W U m m')
    case first =>
      go_wp2_with fail
      go_loopw [23] (DlRel W m xo xoff B (23 + xdn)) (fun v _ => 23 + xdn - ivN v)
      case atStart => exact ⟨0, rfl, Nat.zero_le _, m, HBW.out, Tr.refl _ _⟩
      case round =>
        obtain ⟨k, rfl, hk, m1, hb1, ht1⟩ := hrel
        by_cases hkN : k < 23 + xdn
        · have HB1 := hid hb1
          have HT1 := hid ht1
          have hlt : decide ((k : Int) < 23 + (xdn : Int)) = true := by simp; omega
          have HX2 := hid (HX0.out.but HT1.out.bt (fun hj => by have := HLt.out _ hj; omega))
          obtain ⟨mv, w2, m2, hlk, hdl, hb2, ht2, hcl, hlk2⟩ := laid_del m1 _ xo (wrap64 (wrap64 (xoff - 23) + (k : Int))) wr.drew (hb1.drew) HXo.out.c.1 (w64_ok _)
          have HLK0 : Hid (∀ U, Below wr.heap.size wr U → (Instr.lookup 62 (.map (some m1.ba)) (.int .i64 xo) false).run Try.prog U = .ok (.map mv) U) := fun U hU => hlk U ⟨hU.os, hU.tape, hU.output, hU.size, hU.block⟩
          simp only [wrap_eq] at hdl
          have HDL := hid hdl
          have HB2 : Hid (Bk w2 m2 (dlV xo xoff B (k + 1))) := hb2
          have HT2 : Hid (Tr wr w2 m1 m2) := Tr.fore (Below.refl _ _).drew ht2
          have HS : Hid (∀ U, Below wr.heap.size wr U → (U.rangeAt m.g 0 m1.cells ∧ U.rangeAt w.heap.size 0 [.int .i64 xop, .int .i64 xb, .int .i64 xsz, .int .i64 xo, .int .u64 (xh : Int), .int .u64 (xl : Int), .bool xgv, .int .i64 xrt, .int .i64 xoff, .int .i64 xnn, .slice xda xdn xdc, .int .i64 xix, .slice xga xgn xgc] ∧ (Instr.lookup 62 (.map (some m1.ba)) (.int .i64 xo) false).run Try.prog U = .ok (.map mv) U)) := fun U hU => ⟨by have := (HB1.out.bw.bx.later hU).range; rwa [HT1.out.g] at this, (HX2.out.later hU).range, HLK0.out U hU⟩
          have HSe : Hid (w2.rangeAt m.g 0 m1.cells ∧ w2.rangeAt w.heap.size 0 [.int .i64 xop, .int .i64 xb, .int .i64 xsz, .int .i64 xo, .int .u64 (xh : Int), .int .u64 (xl : Int), .bool xgv, .int .i64 xrt, .int .i64 xoff, .int .i64 xnn, .slice xda xdn xdc, .int .i64 xix, .slice xga xgn xgc] ∧ (Instr.lookup 62 (.map (some m1.ba)) (.int .i64 xo) false).run Try.prog w2 = .ok (.map mv) w2) := ⟨by have := HB2.out.bw.bx.range; rw [hcl] at this; rw [← HT1.out.g, ← HT2.out.g]; exact this, (HX2.out.but HT2.out.bt (fun hj => by rcases HT1.out.gr _ hj with h1 | h1; (have := HLt.out _ h1; omega); (have h2 := HXl.out; omega))).range, hlk2⟩
          clear hlk hlk2 hdl hb2 ht2 hcl hb1 ht1
          go_upto_region 7 with fail
          refine wp_region_held_drew (S := (fun U : World => U.rangeAt m.g 0 m1.cells ∧ U.rangeAt w.heap.size 0 [.int .i64 xop, .int .i64 xb, .int .i64 xsz, .int .i64 xo, .int .u64 (xh : Int), .int .u64 (xl : Int), .bool xgv, .int .i64 xrt, .int .i64 xoff, .int .i64 xnn, .slice xda xdn xdc, .int .i64 xix, .slice xga xgn xgc] ∧ (Instr.lookup 62 (.map (some m1.ba)) (.int .i64 xo) false).run Try.prog U = .ok (.map mv) U)) (by kernel_rfl) (HS.out _ (Below.refl _ _).drew) (fun hHeld => ?_)
          refine wpAnyH_norm (l2 := #[false, false, false, false, false, false, false, false, false, false, false, false, false]) (f2 := 13) (by kernel_rfl) (by kernel_rfl) ?_
          refine wpAnyH_take (i := 0) (oi := _) (v := ?_) rfl (by kernel_rfl) (by kernel_rfl) (by kernel_rfl) (fun _ _ _ h => h) (Or.inl ⟨by rfl, ?_⟩) (by assumption) ?_
          rotate_left
          · (intro w hSw; (try dsimp only at hSw); go_simp; try with_reducible rfl)
          simp only [List.getElem_toArray, List.getElem_cons_succ, List.getElem_cons_zero, Act.put, List.setIfInBounds_toArray, List.set_cons_zero, List.set_cons_succ]
          refine wpAnyH_norm (l2 := #[true, false, false, false, false, false, false, false, false, false, false, false, false]) (f2 := 12) (by kernel_rfl) (by kernel_rfl) ?_
          refine wpAnyH_take (i := 1) (oi := _) (v := ?_) rfl (by kernel_rfl) (by kernel_rfl) (by kernel_rfl) (fun _ _ _ h => h) (Or.inl ⟨by rfl, ?_⟩) (by assumption) ?_
          rotate_left
          · (intro w hSw; (try dsimp only at hSw); go_simp; try with_reducible rfl)
          simp only [List.getElem_toArray, List.getElem_cons_succ, List.getElem_cons_zero, Act.put, List.setIfInBounds_toArray, List.set_cons_zero, List.set_cons_succ]
          refine wpAnyH_norm (l2 := #[true, true, false, false, false, false, false, false, false, false, false, false, false]) (f2 := 11) (by kernel_rfl) (by kernel_rfl) ?_
          refine wpAnyH_take (i := 2) (oi := _) (v := ?_) rfl (by kernel_rfl) (by kernel_rfl) (by kernel_rfl) (fun _ _ _ h => h) (Or.inl ⟨by rfl, ?_⟩) (by assumption) ?_
          rotate_left
          · (intro w hSw; (try dsimp only at hSw); go_simp; try with_reducible rfl)
          simp only [List.getElem_toArray, List.getElem_cons_succ, List.getElem_cons_zero, Act.put, List.setIfInBounds_toArray, List.set_cons_zero, List.set_cons_succ]
          refine wpAnyH_norm (l2 := #[true, true, true, false, false, false, false, false, false, false, false, false, false]) (f2 := 10) (by kernel_rfl) (by kernel_rfl) ?_
          refine wpAnyH_take (i := 3) (oi := _) (v := ?_) rfl (by kernel_rfl) (by kernel_rfl) (by kernel_rfl) (fun _ _ _ h => h) (Or.inl ⟨by rfl, ?_⟩) (by assumption) ?_
          rotate_left
          · (intro w hSw; have z3 := rg_at (j := 3) hSw.1 rfl; go_simp; try with_reducible rfl)
          simp only [List.getElem_toArray, List.getElem_cons_succ, List.getElem_cons_zero, Act.put, List.setIfInBounds_toArray, List.set_cons_zero, List.set_cons_succ]
          refine wpAnyH_norm (l2 := #[true, true, true, true, false, false, false, false, false, false, false, false, false]) (f2 := 9) (by kernel_rfl) (by kernel_rfl) ?_
          refine wpAnyH_take (i := 4) (oi := _) (v := ?_) rfl (by kernel_rfl) (by kernel_rfl) (by kernel_rfl) (fun _ _ _ h => h) (Or.inl ⟨by rfl, ?_⟩) (by assumption) ?_
          rotate_left
          · (intro w hSw; (try dsimp only at hSw); go_simp; try with_reducible rfl)
          simp only [List.getElem_toArray, List.getElem_cons_succ, List.getElem_cons_zero, Act.put, List.setIfInBounds_toArray, List.set_cons_zero, List.set_cons_succ]
          refine wpAnyH_norm (l2 := #[true, true, true, true, true, false, false, false, false, false, false, false, false]) (f2 := 8) (by kernel_rfl) (by kernel_rfl) ?_
          refine wpAnyH_take (i := 5) (oi := _) (v := .map mv) rfl (by kernel_rfl) (by kernel_rfl) (by kernel_rfl) (fun _ _ _ h => h) (Or.inl ⟨by rfl, ?_⟩) (by assumption) ?_
          · (intro w hSw; (try dsimp only at hSw); exact ex_lk rfl rfl rfl hSw.2.2)
          simp only [List.getElem_toArray, List.getElem_cons_succ, List.getElem_cons_zero, Act.put, List.setIfInBounds_toArray, List.set_cons_zero, List.set_cons_succ]
          refine wpAnyH_norm (l2 := #[true, true, true, true, true, true, false, false, false, false, false, false, false]) (f2 := 7) (by kernel_rfl) (by kernel_rfl) ?_
          refine wpAnyH_take (i := 6) (oi := _) (v := ?_) rfl (by kernel_rfl) (by kernel_rfl) (by kernel_rfl) (fun _ _ _ h => h) (Or.inl ⟨by rfl, ?_⟩) (by assumption) ?_
          rotate_left
          · (intro w hSw; (try dsimp only at hSw); go_simp; try with_reducible rfl)
          simp only [List.getElem_toArray, List.getElem_cons_succ, List.getElem_cons_zero, Act.put, List.setIfInBounds_toArray, List.set_cons_zero, List.set_cons_succ]
          refine wpAnyH_norm (l2 := #[true, true, true, true, true, true, true, false, false, false, false, false, false]) (f2 := 6) (by kernel_rfl) (by kernel_rfl) ?_
          refine wpAnyH_take (i := 7) (oi := _) (v := ?_) rfl (by kernel_rfl) (by kernel_rfl) (by kernel_rfl) (fun _ _ _ h => h) (Or.inl ⟨by rfl, ?_⟩) (by assumption) ?_
          rotate_left
          · (intro w hSw; have z8 := rg_at (j := 8) hSw.2.1 rfl; go_simp; try with_reducible rfl)
          simp only [List.getElem_toArray, List.getElem_cons_succ, List.getElem_cons_zero, Act.put, List.setIfInBounds_toArray, List.set_cons_zero, List.set_cons_succ]
          refine wpAnyH_norm (l2 := #[true, true, true, true, true, true, true, true, false, false, false, false, false]) (f2 := 5) (by kernel_rfl) (by kernel_rfl) ?_
          refine wpAnyH_take (i := 8) (oi := _) (v := ?_) rfl (by kernel_rfl) (by kernel_rfl) (by kernel_rfl) (fun _ _ _ h => h) (Or.inl ⟨by rfl, ?_⟩) (by assumption) ?_
          rotate_left
          · (intro w hSw; (try dsimp only at hSw); go_simp; try with_reducible rfl)
          simp only [List.getElem_toArray, List.getElem_cons_succ, List.getElem_cons_zero, Act.put, List.setIfInBounds_toArray, List.set_cons_zero, List.set_cons_succ]
          refine wpAnyH_norm (l2 := #[true, true, true, true, true, true, true, true, true, false, false, false, false]) (f2 := 4) (by kernel_rfl) (by kernel_rfl) ?_
          refine wpAnyH_take (i := 9) (oi := _) (v := ?_) rfl (by kernel_rfl) (by kernel_rfl) (by kernel_rfl) (fun _ _ _ h => h) (Or.inl ⟨by rfl, ?_⟩) (by assumption) ?_
          rotate_left
          · (intro w hSw; (try dsimp only at hSw); go_simp; try with_reducible rfl)
          simp only [List.getElem_toArray, List.getElem_cons_succ, List.getElem_cons_zero, Act.put, List.setIfInBounds_toArray, List.set_cons_zero, List.set_cons_succ]
          refine wpAnyH_norm (l2 := #[true, true, true, true, true, true, true, true, true, true, false, false, false]) (f2 := 3) (by kernel_rfl) (by kernel_rfl) ?_
          refine wpAnyH_take (i := 10) (oi := _) (v := ?_) rfl (by kernel_rfl) (by kernel_rfl) (by kernel_rfl) (fun _ _ _ h => h) (Or.inl ⟨by rfl, ?_⟩) (by assumption) ?_
          rotate_left
          · (intro w hSw; (try dsimp only at hSw); go_simp; try with_reducible rfl)
          simp only [List.getElem_toArray, List.getElem_cons_succ, List.getElem_cons_zero, Act.put, List.setIfInBounds_toArray, List.set_cons_zero, List.set_cons_succ]
          refine wpAnyH_norm (l2 := #[true, true, true, true, true, true, true, true, true, true, true, false, false]) (f2 := 2) (by kernel_rfl) (by kernel_rfl) ?_
          refine wpAnyH_take (i := 11) (oi := _) (v := ?_) rfl (by kernel_rfl) (by kernel_rfl) (by kernel_rfl) (fun _ _ _ h => h) (Or.inl ⟨by rfl, ?_⟩) (by assumption) ?_
          rotate_left
          · (intro w hSw; (try dsimp only at hSw); go_simp; try with_reducible rfl)
          simp only [List.getElem_toArray, List.getElem_cons_succ, List.getElem_cons_zero, Act.put, List.setIfInBounds_toArray, List.set_cons_zero, List.set_cons_succ]
          refine wpAnyH_norm (l2 := #[true, true, true, true, true, true, true, true, true, true, true, true, false]) (f2 := 1) (by kernel_rfl) (by kernel_rfl) ?_
          refine wpAnyH_ready (rs := [12]) (by kernel_rfl) (by simp) ?_
          refine AllReadyH.cons rfl (fun K hK => ?_) AllReadyH.nil
          refine wp_del rfl rfl rfl HDL.out ?_
          refine hK.out _ _ (HSe.out) (fun hHeld => ?_)
          clear hK K
          simp only [List.getElem_toArray, List.getElem_cons_succ, List.getElem_cons_zero, Act.put, List.setIfInBounds_toArray, List.set_cons_zero, List.set_cons_succ]
          refine wpAnyH_norm (l2 := #[true, true, true, true, true, true, true, true, true, true, true, true, true]) (f2 := 0) (by kernel_rfl) (by kernel_rfl) ?_
          refine wpAnyH_done (by kernel_rfl) ?_ _
          go_wp2
          exact ⟨⟨k + 1, rfl, by omega, m2, HB2.out, HT1.out.trans HT2.out⟩, by simp [ivN]; omega⟩
        · obtain rfl : k = 23 + xdn := by omega
          have HB1 := hid hb1
          have HT1 := hid ht1
          have hlt : ¬ (((23 + xdn : Nat) : Int) < 23 + (xdn : Int)) := by omega
          clear hb1 ht1
          go_wp2
          go_meet
          exact ⟨rfl, rfl, m1, HB1.out, HT1.out⟩
    case rest =>
      rename World => V0
      obtain ⟨rfl, rfl, m1, hb1, ht1⟩ := hcut
      have HB1 := hid hb1
      have HT1 := hid ht1
      have HX1 := hid (HX0.out.but HT1.out.bt (fun hj => by have := HLt.out _ hj; omega))
      have HRw1 := hid (HRw.out.but HT1.out.bt (fun j hj => (HDt.out j hj).2))
      have HLt1 : Hid (∀ j, Owb m1 j → j ≠ w.heap.size ∧ (∀ i, Blk xda i → j ≠ i)) := fun j hj => by
        have h2 := HXl.out
        rcases HT1.out.gr j hj with h1 | h1
        · have := HLt.out _ h1
          exact ⟨by omega, fun i hi e => (HDt.out i hi).2 (by rw [← e]; exact h1)⟩
        · exact ⟨by omega, fun i hi e => by have := (HDt.out i hi).1; omega⟩
      obtain ⟨gb, gq, rfl, -⟩ := HRw.out.plain (by omega)
      have x10 := HX1.out.cell 10 rfl
      have HWh : Hid (∀ U, Calls Try.prog 38 #[.slice (some ⟨gb, gq, none⟩) xdn xdc] U fun e w' => e = .returned (.int .i64 ((xdn - 23 : Nat) : Int)) ∧ U = w') := fun U => (wholes_any _ xdn xdc U (by omega)).mono (fun e w' h => ⟨h.1, h.2.symm⟩)
      have hN := HNe.out
      rw [← hN] at HWh
      have hN2 : N ≤ 100000000 := by omega
      have HN : Hid (∀ k, k < N → k + 24 ≤ xdn) := fun k hk => by omega
      clear hb1 ht1 hN
      go_wp2_with (first | (go_at_call 38; refine (HWh.out _).mono ?_; rintro e w2 ⟨rfl, rfl⟩))
      clear x10 HWh
      go_loopw [42] (WrRel V0 m1 xb xo xoff bs (dlV xo xoff B (23 + xdn)) N) (fun v _ => N - ivN v)
      case atStart => exact ⟨0, rfl, Nat.zero_le _, m1, HB1.out, Tr.refl _ _⟩
      case round =>
        obtain ⟨k, rfl, hk, m2, hb2, ht2⟩ := hrel
        by_cases hkN : k < N
        · have HB2 := hid hb2
          have HT2 := hid ht2
          have hlt : decide ((k : Int) < (N : Int)) = true := by simp; omega
          have HX2 := hid (HX1.out.but HT2.out.bt (fun hj => (HLt1.out _ hj).1 rfl))
          have HRw2 := hid (HRw1.out.but HT2.out.bt (fun j hj hs => (HLt1.out _ hs).2 j hj rfl))
          have HLt2 : Hid (∀ j, Owb m2 j → j ≠ w.heap.size) := fun j hj => by
            have h2 := HXl.out
            rcases HT2.out.gr j hj with h1 | h1
            · exact (HLt1.out j h1).1
            · have := HT1.out.bt.size; omega
          have hk24 := HN.out k hkN
          obtain ⟨F, hF⟩ : ∃ F, F = (bs.drop k).take 24 := ⟨_, rfl⟩
          have HFl : Hid (F.length = 24) := by unfold Hid; rw [hF, List.length_take, List.length_drop, HLe.out]; omega
          have HFs : Hid (∀ x ∈ F, x < 256) := fun x hx => by rw [hF] at hx; exact HRw.out.small x (List.mem_of_mem_drop (List.mem_of_mem_take hx))
          have HLD : Hid ((Instr.loadAt 95 (.pointer (some ⟨gb, gq + k, none⟩))).run Try.prog wr = .ok (fmV F) wr) := by
            have := HRw2.out.rg k
            rw [← hF] at this
            exact ldFm this (by rw [u8s_length]; exact HFl.out)
          obtain ⟨vt, hlo, hrt⟩ := told_look m2 _ xb F wr hb2 HXo.out.b HFl.out HFs.out
          have htd := (wrV_n xb xo xoff bs (dlV xo xoff B (23 + xdn)) k).2.1
          have HLo := hid hlo
          have HZx : Hid (Bx (wr.alloc (Obj.cells #[.int .u8 0, .int .u8 0, .int .u8 0, .int .u8 0, .int .u8 0, .int .u8 0, .int .u8 0, .int .u8 0, .int .u8 0, .int .u8 0, .int .u8 0, .int .u8 0, .int .u8 0, .int .u8 0, .int .u8 0, .int .u8 0, .int .u8 0, .int .u8 0, .int .u8 0, .int .u8 0, .int .u8 0, .int .u8 0, .int .u8 0, .int .u8 0] 95)) wr.heap.size (u8s zF)) := Bx.new wr (u8s zF) _
          have HSt := hid (stFm (L := u8s F) (w := wr.alloc (Obj.cells #[.int .u8 0, .int .u8 0, .int .u8 0, .int .u8 0, .int .u8 0, .int .u8 0, .int .u8 0, .int .u8 0, .int .u8 0, .int .u8 0, .int .u8 0, .int .u8 0, .int .u8 0, .int .u8 0, .int .u8 0, .int .u8 0, .int .u8 0, .int .u8 0, .int .u8 0, .int .u8 0, .int .u8 0, .int .u8 0, .int .u8 0, .int .u8 0] 95)) (b := wr.heap.size) (o := 0) (by have := HZx.out.there; rwa [u8s_length, show zF.length = 24 from rfl] at this) (by rw [u8s_length]; exact HFl.out) (u8s_one F))
          have x10 := HX2.out.cell 10 rfl
          have hk1 : (k : Int) ≤ (k : Int) + 24 := by omega
          have hk2 : (k : Int) + 24 ≤ (xdc : Int) := by omega
          have hk3 : (k : Int) + 24 ≤ (xdn : Int) := by omega
          have harr : ∀ c U, (Instr.arrayAt 95 (.slice (some ⟨gb, gq + k, none⟩) 24 c)).run Try.prog U = .ok (.pointer (some ⟨gb, gq + k, none⟩)) U := fun c U => by
            simp [Instr.arrayAt, run_underlying Try.underlying95]
          have HWS : Hid (∀ ls, B.told xb F = some ls → wrV xb xo xoff bs (dlV xo xoff B (23 + xdn)) (k + 1) = { wrV xb xo xoff bs (dlV xo xoff B (23 + xdn)) k with laid := up2 (wrV xb xo xoff bs (dlV xo xoff B (23 + xdn)) k).laid xo (wrap64 (xoff + (k : Int))) (some ls) }) := fun ls e => by
            rw [wrV]
            unfold wrS
            have hm : (wrV xb xo xoff bs (dlV xo xoff B (23 + xdn)) k).told xb ((bs.drop k).take 24) = some ls := by rw [htd, ← hF, (dlV_n xo xoff B (23 + xdn)).2.1, e]
            rw [hm]
          have HWN : Hid (B.told xb F = none → wrV xb xo xoff bs (dlV xo xoff B (23 + xdn)) (k + 1) = wrV xb xo xoff bs (dlV xo xoff B (23 + xdn)) k) := fun e => by
            rw [wrV]
            unfold wrS
            have hm : (wrV xb xo xoff bs (dlV xo xoff B (23 + xdn)) k).told xb ((bs.drop k).take 24) = none := by rw [htd, ← hF, (dlV_n xo xoff B (23 + xdn)).2.1, e]
            rw [hm]
          rw [htd, (dlV_n xo xoff B (23 + xdn)).2.1] at HLo hrt
          have HRt := hid hrt
          clear hb2 ht2 hlo hrt htd hF
          go_upto_region 13 with (first | ((with_reducible refine ld_arm HLD.out ?_ ?_); (· rfl)) | ((with_reducible refine st_arm HSt.out ?_ ?_ ?_); (· rfl); (· rfl)))
          obtain ⟨V2, hV2⟩ : ∃ V, V = (wr.alloc (Obj.cells #[.int .u8 0, .int .u8 0, .int .u8 0, .int .u8 0, .int .u8 0, .int .u8 0, .int .u8 0, .int .u8 0, .int .u8 0, .int .u8 0, .int .u8 0, .int .u8 0, .int .u8 0, .int .u8 0, .int .u8 0, .int .u8 0, .int .u8 0, .int .u8 0, .int .u8 0, .int .u8 0, .int .u8 0, .int .u8 0, .int .u8 0, .int .u8 0] 95)).setCells wr.heap.size 0 (u8s F) := ⟨_, rfl⟩
          rw [← hV2]
          obtain ⟨kf, hkf⟩ : ∃ k, k = wr.heap.size := ⟨_, rfl⟩
          have HBv : Hid (Below wr.heap.size wr V2) := by rw [hV2]; exact But.below (below1 _ _) (setCells_but (S := (· = wr.heap.size)) rfl (u8s F) 0 (But.refl _ _)) (fun k hk => by omega)
          have HXf : Hid (Bx V2 kf (u8s F)) := by rw [hkf, hV2]; exact HZx.out.set (by rw [u8s_length, u8s_length, HFl.out]; rfl)
          rw [← hkf]
          have HTg : Hid (m2.g = m.g) := HT2.out.g.trans HT1.out.g
          have HS : Hid (∀ U, Below V2.heap.size V2 U → (U.rangeAt m.g 0 m2.cells ∧ U.rangeAt w.heap.size 0 [.int .i64 xop, .int .i64 xb, .int .i64 xsz, .int .i64 xo, .int .u64 (xh : Int), .int .u64 (xl : Int), .bool xgv, .int .i64 xrt, .int .i64 xoff, .int .i64 xnn, .slice (some ⟨gb, gq, none⟩) xdn xdc, .int .i64 xix, .slice xga xgn xgc] ∧ U.rangeAt kf 0 (u8s F))) := fun U hU => ⟨by have := ((HB2.out.later HBv.out).bw.bx.later hU).range; rwa [HTg.out] at this, ((HX2.out.later HBv.out).later hU).range, (HXf.out.later hU).range⟩
          clear x10 hV2 hkf HZx HSt HLD harr hk1 hk2 hk3 hk24
          generalize hrb : (B.told xb F).isSome = rb at HLo
          refine wp_region_held_drew (S := (fun U : World => U.rangeAt m.g 0 m2.cells ∧ U.rangeAt w.heap.size 0 [.int .i64 xop, .int .i64 xb, .int .i64 xsz, .int .i64 xo, .int .u64 (xh : Int), .int .u64 (xl : Int), .bool xgv, .int .i64 xrt, .int .i64 xoff, .int .i64 xnn, .slice (some ⟨gb, gq, none⟩) xdn xdc, .int .i64 xix, .slice xga xgn xgc] ∧ U.rangeAt kf 0 (u8s F))) (by kernel_rfl) (HS.out _ (Below.refl _ _).drew) (fun hHeld => ?_)
          refine wpAnyH_norm (l2 := #[false, false, false, false, false, false, false, false, false, false, false, false, false]) (f2 := 13) (by kernel_rfl) (by kernel_rfl) ?_
          refine wpAnyH_take (i := 0) (oi := _) (v := ?_) rfl (by kernel_rfl) (by kernel_rfl) (by kernel_rfl) (fun _ _ _ h => h) (Or.inl ⟨by rfl, ?_⟩) (by assumption) ?_
          rotate_left
          · (intro w hSw; (try dsimp only at hSw); go_simp; try with_reducible rfl)
          simp only [List.getElem_toArray, List.getElem_cons_succ, List.getElem_cons_zero, Act.put, List.setIfInBounds_toArray, List.set_cons_zero, List.set_cons_succ]
          refine wpAnyH_norm (l2 := #[true, false, false, false, false, false, false, false, false, false, false, false, false]) (f2 := 12) (by kernel_rfl) (by kernel_rfl) ?_
          refine wpAnyH_take (i := 1) (oi := _) (v := ?_) rfl (by kernel_rfl) (by kernel_rfl) (by kernel_rfl) (fun _ _ _ h => h) (Or.inl ⟨by rfl, ?_⟩) (by assumption) ?_
          rotate_left
          · (intro w hSw; (try dsimp only at hSw); go_simp; try with_reducible rfl)
          simp only [List.getElem_toArray, List.getElem_cons_succ, List.getElem_cons_zero, Act.put, List.setIfInBounds_toArray, List.set_cons_zero, List.set_cons_succ]
          refine wpAnyH_norm (l2 := #[true, true, false, false, false, false, false, false, false, false, false, false, false]) (f2 := 11) (by kernel_rfl) (by kernel_rfl) ?_
          refine wpAnyH_take (i := 2) (oi := _) (v := ?_) rfl (by kernel_rfl) (by kernel_rfl) (by kernel_rfl) (fun _ _ _ h => h) (Or.inl ⟨by rfl, ?_⟩) (by assumption) ?_
          rotate_left
          · (intro w hSw; (try dsimp only at hSw); go_simp; try with_reducible rfl)
          simp only [List.getElem_toArray, List.getElem_cons_succ, List.getElem_cons_zero, Act.put, List.setIfInBounds_toArray, List.set_cons_zero, List.set_cons_succ]
          refine wpAnyH_norm (l2 := #[true, true, true, false, false, false, false, false, false, false, false, false, false]) (f2 := 10) (by kernel_rfl) (by kernel_rfl) ?_
          refine wpAnyH_take (i := 3) (oi := _) (v := ?_) rfl (by kernel_rfl) (by kernel_rfl) (by kernel_rfl) (fun _ _ _ h => h) (Or.inl ⟨by rfl, ?_⟩) (by assumption) ?_
          rotate_left
          · (intro w hSw; have z4 := rg_at (j := 4) hSw.1 rfl; go_simp; try with_reducible rfl)
          simp only [List.getElem_toArray, List.getElem_cons_succ, List.getElem_cons_zero, Act.put, List.setIfInBounds_toArray, List.set_cons_zero, List.set_cons_succ]
          refine wpAnyH_norm (l2 := #[true, true, true, true, false, false, false, false, false, false, false, false, false]) (f2 := 9) (by kernel_rfl) (by kernel_rfl) ?_
          refine wpAnyH_take (i := 4) (oi := _) (v := ?_) rfl (by kernel_rfl) (by kernel_rfl) (by kernel_rfl) (fun _ _ _ h => h) (Or.inl ⟨by rfl, ?_⟩) (by assumption) ?_
          rotate_left
          · (intro w hSw; (try dsimp only at hSw); go_simp; try with_reducible rfl)
          simp only [List.getElem_toArray, List.getElem_cons_succ, List.getElem_cons_zero, Act.put, List.setIfInBounds_toArray, List.set_cons_zero, List.set_cons_succ]
          refine wpAnyH_norm (l2 := #[true, true, true, true, true, false, false, false, false, false, false, false, false]) (f2 := 8) (by kernel_rfl) (by kernel_rfl) ?_
          refine wpAnyH_take (i := 5) (oi := _) (v := ?_) rfl (by kernel_rfl) (by kernel_rfl) (by kernel_rfl) (fun _ _ _ h => h) (Or.inl ⟨by rfl, ?_⟩) (by assumption) ?_
          rotate_left
          · (intro w hSw; have z1 := rg_at (j := 1) hSw.2.1 rfl; go_simp; try with_reducible rfl)
          simp only [List.getElem_toArray, List.getElem_cons_succ, List.getElem_cons_zero, Act.put, List.setIfInBounds_toArray, List.set_cons_zero, List.set_cons_succ]
          refine wpAnyH_norm (l2 := #[true, true, true, true, true, true, false, false, false, false, false, false, false]) (f2 := 7) (by kernel_rfl) (by kernel_rfl) ?_
          refine wpAnyH_take (i := 6) (oi := _) (v := fmV F) rfl (by kernel_rfl) (by kernel_rfl) (by kernel_rfl) (fun _ _ _ h => h) (Or.inl ⟨by rfl, ?_⟩) (by assumption) ?_
          · (intro w hSw; (try dsimp only at hSw); exact ex_ld rfl rfl (ldFm hSw.2.2 (by rw [u8s_length]; exact HFl.out)))
          simp only [List.getElem_toArray, List.getElem_cons_succ, List.getElem_cons_zero, Act.put, List.setIfInBounds_toArray, List.set_cons_zero, List.set_cons_succ]
          refine wpAnyH_norm (l2 := #[true, true, true, true, true, true, true, false, false, false, false, false, false]) (f2 := 6) (by kernel_rfl) (by kernel_rfl) ?_
          refine wpAnyH_ready (rs := [7]) (by kernel_rfl) (by simp) ?_
          refine AllReadyH.cons rfl (fun K hK => ?_) AllReadyH.nil
          go_simp
          go_wp2_with (first | (go_at_call 40; refine (HLo.out _ (below_call HBv.out (Below.refl _ _).drew)).mono ?_; rintro e w3 ⟨rfl, hb3⟩))
          have HB3 : Hid (Below V2.heap.size V2 w3) := below_call (Below.refl _ _).drew hb3
          clear hb3
          refine hK.out _ _ (HS.out _ HB3.out) (fun hHeld => ?_)
          clear hK K
          simp only [List.getElem_toArray, List.getElem_cons_succ, List.getElem_cons_zero, Act.put, List.setIfInBounds_toArray, List.set_cons_zero, List.set_cons_succ]
          refine wpAnyH_norm (l2 := #[true, true, true, true, true, true, true, true, false, false, false, false, false]) (f2 := 5) (by kernel_rfl) (by kernel_rfl) ?_
          refine wpAnyH_take (i := 8) (oi := _) (v := ?_) rfl (by kernel_rfl) (by kernel_rfl) (by kernel_rfl) (fun _ _ _ h => h) (Or.inl ⟨by rfl, ?_⟩) (by assumption) ?_
          rotate_left
          · (intro w hSw; (try dsimp only at hSw); go_simp; try with_reducible rfl)
          simp only [List.getElem_toArray, List.getElem_cons_succ, List.getElem_cons_zero, Act.put, List.setIfInBounds_toArray, List.set_cons_zero, List.set_cons_succ]
          refine wpAnyH_norm (l2 := #[true, true, true, true, true, true, true, true, true, false, false, false, false]) (f2 := 4) (by kernel_rfl) (by kernel_rfl) ?_
          refine wpAnyH_take (i := 9) (oi := _) (v := ?_) rfl (by kernel_rfl) (by kernel_rfl) (by kernel_rfl) (fun _ _ _ h => h) (Or.inl ⟨by rfl, ?_⟩) (by assumption) ?_
          rotate_left
          · (intro w hSw; (try dsimp only at hSw); go_simp; try with_reducible rfl)
          simp only [List.getElem_toArray, List.getElem_cons_succ, List.getElem_cons_zero, Act.put, List.setIfInBounds_toArray, List.set_cons_zero, List.set_cons_succ]
          refine wpAnyH_norm (l2 := #[true, true, true, true, true, true, true, true, true, true, false, false, false]) (f2 := 3) (by kernel_rfl) (by kernel_rfl) ?_
          refine wpAnyH_take (i := 10) (oi := _) (v := ?_) rfl (by kernel_rfl) (by kernel_rfl) (by kernel_rfl) (fun _ _ _ h => h) (Or.inl ⟨by rfl, ?_⟩) (by assumption) ?_
          rotate_left
          · (intro w hSw; (try dsimp only at hSw); go_simp; try with_reducible rfl)
          simp only [List.getElem_toArray, List.getElem_cons_succ, List.getElem_cons_zero, Act.put, List.setIfInBounds_toArray, List.set_cons_zero, List.set_cons_succ]
          refine wpAnyH_norm (l2 := #[true, true, true, true, true, true, true, true, true, true, true, false, false]) (f2 := 2) (by kernel_rfl) (by kernel_rfl) ?_
          refine wpAnyH_take (i := 11) (oi := _) (v := ?_) rfl (by kernel_rfl) (by kernel_rfl) (by kernel_rfl) (fun _ _ _ h => h) (Or.inl ⟨by rfl, ?_⟩) (by assumption) ?_
          rotate_left
          · (intro w hSw; (try dsimp only at hSw); go_simp; try with_reducible rfl)
          simp only [List.getElem_toArray, List.getElem_cons_succ, List.getElem_cons_zero, Act.put, List.setIfInBounds_toArray, List.set_cons_zero, List.set_cons_succ]
          refine wpAnyH_norm (l2 := #[true, true, true, true, true, true, true, true, true, true, true, true, false]) (f2 := 1) (by kernel_rfl) (by kernel_rfl) ?_
          refine wpAnyH_take (i := 12) (oi := _) (v := ?_) rfl (by kernel_rfl) (by kernel_rfl) (by kernel_rfl) (fun _ _ _ h => h) (Or.inl ⟨by rfl, ?_⟩) (by assumption) ?_
          rotate_left
          · (intro w hSw; (try dsimp only at hSw); go_simp; try with_reducible rfl)
          simp only [List.getElem_toArray, List.getElem_cons_succ, List.getElem_cons_zero, Act.put, List.setIfInBounds_toArray, List.set_cons_zero, List.set_cons_succ]
          refine wpAnyH_norm (l2 := #[true, true, true, true, true, true, true, true, true, true, true, true, true]) (f2 := 0) (by kernel_rfl) (by kernel_rfl) ?_
          refine wpAnyH_done (by kernel_rfl) ?_ _
          have HB3w : Hid (Below wr.heap.size wr w3) := below_call HBv.out HB3.out
          cases rb with
          | false =>
            have hnone : B.told xb F = none := by
              cases e : B.told xb F with
              | none => rfl
              | some a => rw [e] at hrb; cases hrb
            go_wp2
            exact ⟨⟨k + 1, rfl, by omega, m2, by rw [HWN.out hnone]; exact HB2.out.later HB3w.out, HT2.out.later HB3w.out⟩, by simp [ivN]; omega⟩
          | true =>
            obtain ⟨ls, hsome⟩ : ∃ ls, B.told xb F = some ls := Option.isSome_iff_exists.1 hrb
            have HKp : Hid (∀ U, Below w3.heap.size w3 U → Calls Try.prog 41 #[.map (some m2.ba), .int .i64 xo, .int .i64 (IntKind.i64.wrap (xoff + (k : Int))), .pointer vt] U fun e w' => e = .returned (.tuple #[]) ∧ Bx w' m2.g m2.cells ∧ ∃ m', Bk w' m' (wrV xb xo xoff bs (dlV xo xoff B (23 + xdn)) (k + 1)) ∧ Tr U w' m2 m') := fun U hU => by
              have hb := (HB2.out.later HB3w.out).later hU
              have hwi : I64 (IntKind.i64.wrap (xoff + (k : Int))) := by rw [← wrap_eq]; exact w64_ok _
              refine (keepI_any m2.ba m2.A xo _ vt hwi U hb.bw.laid HXo.out.c.1).mono ?_
              rintro e w' ⟨rfl, hkp⟩
              have hrt := (HRt.out ls hsome).but HB2.out.bw (But.of (S := fun _ => False) (below_call HB3w.out hU)) (fun _ h => h.elim)
              obtain ⟨m', q1, q2⟩ := Kept.laid hb hkp hwi hrt
              refine ⟨rfl, hkp.bx hb.bw, m', ?_, q2⟩
              rw [HWS.out ls hsome, wrap_eq]
              exact q1
            clear hrb hsome
            have HS2 : Hid (∀ U, Below w3.heap.size w3 U → (U.rangeAt m.g 0 m2.cells ∧ U.rangeAt w.heap.size 0 [.int .i64 xop, .int .i64 xb, .int .i64 xsz, .int .i64 xo, .int .u64 (xh : Int), .int .u64 (xl : Int), .bool xgv, .int .i64 xrt, .int .i64 xoff, .int .i64 xnn, .slice (some ⟨gb, gq, none⟩) xdn xdc, .int .i64 xix, .slice xga xgn xgc])) := fun U hU => ⟨by have := (((HB2.out.later HB3w.out)).bw.bx.later hU).range; rwa [HTg.out] at this, ((HX2.out.later HB3w.out).later hU).range⟩
            go_upto_region 15 with fail
            refine wp_region_held_drew (S := (fun U : World => U.rangeAt m.g 0 m2.cells ∧ U.rangeAt w.heap.size 0 [.int .i64 xop, .int .i64 xb, .int .i64 xsz, .int .i64 xo, .int .u64 (xh : Int), .int .u64 (xl : Int), .bool xgv, .int .i64 xrt, .int .i64 xoff, .int .i64 xnn, .slice (some ⟨gb, gq, none⟩) xdn xdc, .int .i64 xix, .slice xga xgn xgc])) (by kernel_rfl) (HS2.out _ (Below.refl _ _).drew) (fun hHeld => ?_)
            refine wpAnyH_norm (l2 := #[false, false, false, false, false, false, false, false, false, false, false]) (f2 := 11) (by kernel_rfl) (by kernel_rfl) ?_
            refine wpAnyH_take (i := 0) (oi := _) (v := ?_) rfl (by kernel_rfl) (by kernel_rfl) (by kernel_rfl) (fun _ _ _ h => h) (Or.inl ⟨by rfl, ?_⟩) (by assumption) ?_
            rotate_left
            · (intro w hSw; (try dsimp only at hSw); go_simp; try with_reducible rfl)
            simp only [List.getElem_toArray, List.getElem_cons_succ, List.getElem_cons_zero, Act.put, List.setIfInBounds_toArray, List.set_cons_zero, List.set_cons_succ]
            refine wpAnyH_norm (l2 := #[true, false, false, false, false, false, false, false, false, false, false]) (f2 := 10) (by kernel_rfl) (by kernel_rfl) ?_
            refine wpAnyH_take (i := 1) (oi := _) (v := ?_) rfl (by kernel_rfl) (by kernel_rfl) (by kernel_rfl) (fun _ _ _ h => h) (Or.inl ⟨by rfl, ?_⟩) (by assumption) ?_
            rotate_left
            · (intro w hSw; (try dsimp only at hSw); go_simp; try with_reducible rfl)
            simp only [List.getElem_toArray, List.getElem_cons_succ, List.getElem_cons_zero, Act.put, List.setIfInBounds_toArray, List.set_cons_zero, List.set_cons_succ]
            refine wpAnyH_norm (l2 := #[true, true, false, false, false, false, false, false, false, false, false]) (f2 := 9) (by kernel_rfl) (by kernel_rfl) ?_
            refine wpAnyH_take (i := 2) (oi := _) (v := ?_) rfl (by kernel_rfl) (by kernel_rfl) (by kernel_rfl) (fun _ _ _ h => h) (Or.inl ⟨by rfl, ?_⟩) (by assumption) ?_
            rotate_left
            · (intro w hSw; (try dsimp only at hSw); go_simp; try with_reducible rfl)
            simp only [List.getElem_toArray, List.getElem_cons_succ, List.getElem_cons_zero, Act.put, List.setIfInBounds_toArray, List.set_cons_zero, List.set_cons_succ]
            refine wpAnyH_norm (l2 := #[true, true, true, false, false, false, false, false, false, false, false]) (f2 := 8) (by kernel_rfl) (by kernel_rfl) ?_
            refine wpAnyH_take (i := 3) (oi := _) (v := ?_) rfl (by kernel_rfl) (by kernel_rfl) (by kernel_rfl) (fun _ _ _ h => h) (Or.inl ⟨by rfl, ?_⟩) (by assumption) ?_
            rotate_left
            · (intro w hSw; have z3 := rg_at (j := 3) hSw.1 rfl; go_simp; try with_reducible rfl)
            simp only [List.getElem_toArray, List.getElem_cons_succ, List.getElem_cons_zero, Act.put, List.setIfInBounds_toArray, List.set_cons_zero, List.set_cons_succ]
            refine wpAnyH_norm (l2 := #[true, true, true, true, false, false, false, false, false, false, false]) (f2 := 7) (by kernel_rfl) (by kernel_rfl) ?_
            refine wpAnyH_take (i := 4) (oi := _) (v := ?_) rfl (by kernel_rfl) (by kernel_rfl) (by kernel_rfl) (fun _ _ _ h => h) (Or.inl ⟨by rfl, ?_⟩) (by assumption) ?_
            rotate_left
            · (intro w hSw; (try dsimp only at hSw); go_simp; try with_reducible rfl)
            simp only [List.getElem_toArray, List.getElem_cons_succ, List.getElem_cons_zero, Act.put, List.setIfInBounds_toArray, List.set_cons_zero, List.set_cons_succ]
            refine wpAnyH_norm (l2 := #[true, true, true, true, true, false, false, false, false, false, false]) (f2 := 6) (by kernel_rfl) (by kernel_rfl) ?_
            refine wpAnyH_take (i := 5) (oi := _) (v := ?_) rfl (by kernel_rfl) (by kernel_rfl) (by kernel_rfl) (fun _ _ _ h => h) (Or.inl ⟨by rfl, ?_⟩) (by assumption) ?_
            rotate_left
            · (intro w hSw; (try dsimp only at hSw); go_simp; try with_reducible rfl)
            simp only [List.getElem_toArray, List.getElem_cons_succ, List.getElem_cons_zero, Act.put, List.setIfInBounds_toArray, List.set_cons_zero, List.set_cons_succ]
            refine wpAnyH_norm (l2 := #[true, true, true, true, true, true, false, false, false, false, false]) (f2 := 5) (by kernel_rfl) (by kernel_rfl) ?_
            refine wpAnyH_take (i := 6) (oi := _) (v := ?_) rfl (by kernel_rfl) (by kernel_rfl) (by kernel_rfl) (fun _ _ _ h => h) (Or.inl ⟨by rfl, ?_⟩) (by assumption) ?_
            rotate_left
            · (intro w hSw; have z8 := rg_at (j := 8) hSw.2 rfl; go_simp; try with_reducible rfl)
            simp only [List.getElem_toArray, List.getElem_cons_succ, List.getElem_cons_zero, Act.put, List.setIfInBounds_toArray, List.set_cons_zero, List.set_cons_succ]
            refine wpAnyH_norm (l2 := #[true, true, true, true, true, true, true, false, false, false, false]) (f2 := 4) (by kernel_rfl) (by kernel_rfl) ?_
            refine wpAnyH_take (i := 7) (oi := _) (v := ?_) rfl (by kernel_rfl) (by kernel_rfl) (by kernel_rfl) (fun _ _ _ h => h) (Or.inl ⟨by rfl, ?_⟩) (by assumption) ?_
            rotate_left
            · (intro w hSw; (try dsimp only at hSw); go_simp; try with_reducible rfl)
            simp only [List.getElem_toArray, List.getElem_cons_succ, List.getElem_cons_zero, Act.put, List.setIfInBounds_toArray, List.set_cons_zero, List.set_cons_succ]
            refine wpAnyH_norm (l2 := #[true, true, true, true, true, true, true, true, false, false, false]) (f2 := 3) (by kernel_rfl) (by kernel_rfl) ?_
            refine wpAnyH_take (i := 8) (oi := _) (v := ?_) rfl (by kernel_rfl) (by kernel_rfl) (by kernel_rfl) (fun _ _ _ h => h) (Or.inl ⟨by rfl, ?_⟩) (by assumption) ?_
            rotate_left
            · (intro w hSw; (try dsimp only at hSw); go_simp; try with_reducible rfl)
            simp only [List.getElem_toArray, List.getElem_cons_succ, List.getElem_cons_zero, Act.put, List.setIfInBounds_toArray, List.set_cons_zero, List.set_cons_succ]
            refine wpAnyH_norm (l2 := #[true, true, true, true, true, true, true, true, true, false, false]) (f2 := 2) (by kernel_rfl) (by kernel_rfl) ?_
            refine wpAnyH_take (i := 9) (oi := _) (v := ?_) rfl (by kernel_rfl) (by kernel_rfl) (by kernel_rfl) (fun _ _ _ h => h) (Or.inl ⟨by rfl, ?_⟩) (by assumption) ?_
            rotate_left
            · (intro w hSw; (try dsimp only at hSw); go_simp; try with_reducible rfl)
            simp only [List.getElem_toArray, List.getElem_cons_succ, List.getElem_cons_zero, Act.put, List.setIfInBounds_toArray, List.set_cons_zero, List.set_cons_succ]
            refine wpAnyH_norm (l2 := #[true, true, true, true, true, true, true, true, true, true, false]) (f2 := 1) (by kernel_rfl) (by kernel_rfl) ?_
            refine wpAnyH_ready (rs := [10]) (by kernel_rfl) (by simp) ?_
            refine AllReadyH.cons rfl (fun K hK => ?_) AllReadyH.nil
            go_simp
            go_wp2_with (first | (go_at_call 41; refine (HKp.out _ (Below.refl _ _).drew).mono ?_; rintro e w4 ⟨rfl, hbx3, m3, hb3, ht3⟩))
            have HB4 := hid hb3
            have HT3 : Hid (Tr wr w4 m2 m3) := Tr.fore HB3w.out (Tr.fore (Below.refl _ _).drew ht3)
            have HSe : Hid (w4.rangeAt m.g 0 m2.cells ∧ w4.rangeAt w.heap.size 0 [.int .i64 xop, .int .i64 xb, .int .i64 xsz, .int .i64 xo, .int .u64 (xh : Int), .int .u64 (xl : Int), .bool xgv, .int .i64 xrt, .int .i64 xoff, .int .i64 xnn, .slice (some ⟨gb, gq, none⟩) xdn xdc, .int .i64 xix, .slice xga xgn xgc]) := ⟨by have := hbx3.range; rwa [HTg.out] at this, ((HX2.out.later HB3w.out).but (Tr.fore (Below.refl _ _).drew ht3).bt (fun hj => HLt2.out _ hj rfl)).range⟩
            clear hb3 ht3 hbx3
            refine hK.out _ _ (HSe.out) (fun hHeld => ?_)
            clear hK K
            simp only [List.getElem_toArray, List.getElem_cons_succ, List.getElem_cons_zero, Act.put, List.setIfInBounds_toArray, List.set_cons_zero, List.set_cons_succ]
            refine wpAnyH_norm (l2 := #[true, true, true, true, true, true, true, true, true, true, true]) (f2 := 0) (by kernel_rfl) (by kernel_rfl) ?_
            refine wpAnyH_done (by kernel_rfl) ?_ _
            go_wp2
            exact ⟨⟨k + 1, rfl, by omega, m3, HB4.out, HT2.out.trans HT3.out⟩, by simp [ivN]; omega⟩
        · obtain rfl : k = N := by omega
          have hlt : decide ((k : Int) < (k : Int)) = false := by simp
          have HB2 := hid hb2
          have HT2 := hid ht2
          clear hb2 ht2
          go_wp2
          exact bodyPost_end (v := .tuple #[]) (by simp [results, Try.results23, go_sem]) rfl ⟨rfl, m2, HB2.out, Tr.fore HB.out (HT1.out.trans HT2.out)⟩
end Go.Proofs.Yticgammbjcdobaa
