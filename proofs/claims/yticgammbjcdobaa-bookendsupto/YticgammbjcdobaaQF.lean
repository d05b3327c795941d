import Derived.Test.YticgammbjcdobaaQD
namespace Go.Proofs.Yticgammbjcdobaa
open Go.RowKit
set_option linter.unusedVariables false
set_option linter.unusedSimpArgs false
theorem ow_snoc9 (t e : TypeId) (z : Value) (k by_ : Nat) (ht : Try.prog.underlying t = some (.slice e)) (hinf : (Try.prog.info? e).map (fun i => (i.zero, i.size, i.bytes)) = some (some z, k, by_)) (hzs : z.cells.size = k) (hk : 0 < k)
    {w : World} {base : Nat} {a : Option Addr} {n cap : Nat} {L cs : List Value} (h : Ow w base e k a n cap L) (hl : cs.length = k) (h1 : ∀ u ∈ cs, u.oneCell' = true) (hb : base ≤ w.heap.size) (hn : n + 1 ≤ 1000000000) (hby : by_ ≤ 1000) :
    ∃ a' c' w', (Builtin.append_ #[t, t] t #[.slice a n cap, .slice (some ⟨w.heap.size, 0, none⟩) 1 1]).run Try.prog (w.alloc (Obj.cells cs.toArray e)) = .ok (.slice a' (n + 1) c') w' ∧ Ow w' base e k a' (n + 1) c' (L ++ cs) ∧ But (Blk a) w w' ∧ ∀ j, Blk a' j → Blk a j ∨ w.heap.size ≤ j := by
  obtain ⟨i, hi, hz0, hz1, hz2⟩ := info_parts hinf
  have hb1 := below1 w (Obj.cells cs.toArray e)
  have hbyt : (n + 1) * by_ ≤ 140737488355328 := by
    have := Nat.mul_le_mul hn hby
    omega
  obtain ⟨v', w', hr, h2, h3, _, h5⟩ := run_append_own_at (P := Try.prog) (w.alloc (Obj.cells cs.toArray e)) base t t e i z k by_ ht hi hz0 hz1 hz2 hzs hk _ n _ (h.later hb1) ⟨w.heap.size, 0, none⟩ 1 1 cs (by rw [hl, Nat.one_mul]) (fun j u hu => by
    rw [addr_add0]
    have := rangeAt_new w cs e j u hu
    rw [Nat.zero_add] at this
    exact this) h1 (by unfold maxLen; omega) hbyt (by simp; omega)
  obtain ⟨a', c', rfl⟩ : ∃ a' c', v' = .slice a' (n + 1) c' := by
    rcases h2.2 with ⟨h, h'⟩ | ⟨g', cap', _, h, _⟩
    · exact ⟨.none, 0, by rw [h, h']⟩
    · exact ⟨_, cap', h⟩
  have hbut : But (Blk a) (w.alloc (Obj.cells cs.toArray e)) w' := ⟨h3.os, h3.tape, h3.output, h3.size, fun j hj hn => h3.block j hj (fun e => hn (Blk.of.1 e.symm))⟩
  refine ⟨a', c', w', hr, h2, (But.of hb1).trans hbut, fun j hj => ?_⟩
  rcases h5 with h5 | h5
  · rw [Blk.of.2 hj] at h5
    exact .inl (Blk.of.1 h5.symm)
  · rw [Blk.of.2 hj] at h5
    right
    simp at h5
    omega
/-- A capability more in a process's list. -/
theorem Bw.known_push {U : World} {m : Bm} (h : Bw U m) {f : Int → List Cp} (hv : Vl m.K f) {p : Int} (hp : I64 p) (c : Cp) (hc : c.far) (hl : (f p).length + 1 ≤ 1000000000) :
    ∃ v0 v7 w7 w8, (∀ U', Below U.heap.size U U' → (Instr.lookup 61 (.map (some m.bk)) (.int .i64 p) false).run Try.prog U' = .ok v0 U') ∧ (Builtin.append_ #[26, 26] 26 #[v0, .slice (some ⟨U.heap.size, 0, none⟩) 1 1]).run Try.prog (U.alloc (Obj.cells #[.int .i64 c.o, .int .u64 (c.h : Int), .int .u64 (c.l : Int)] 31)) = .ok v7 w7 ∧ (Instr.mapUpdate 61 (.map (some m.bk)) (.int .i64 p) v7).run Try.prog w7 = .ok () w8 ∧
      (∃ K', Bw w8 { m with K := K' } ∧ Vl K' (up1 f p (f p ++ [c])) ∧ (∀ j, Owb { m with K := K' } j → Owb m j ∨ U.heap.size ≤ j) ∧ ∀ x ∈ K', x ∈ m.K ∨ 0 < x.s.n) ∧ But (fun j => j = m.bk ∨ ∃ k ∈ m.K, Blk k.s.a j) U w8 ∧ But (fun j => j = m.bk ∨ ∃ k ∈ m.K, Blk k.s.a j) U w7 := by
  obtain ⟨s, hs, hf⟩ := hv.look p
  obtain ⟨hlk, ho, hn⟩ := h.known.look hp hs
  have hgl : m.g < U.heap.size := h.lo m.g (by simp)
  obtain ⟨a', c', w7, r7, o7, b7, n7⟩ := ow_snoc9 26 31 _ 3 24 Try.underlying26 infoC3 rfl (by omega) (cs := [.int .i64 c.o, .int .u64 (c.h : Int), .int .u64 (c.l : Int)]) ho rfl (one3 _ _ _) (by omega) (by omega) (by omega)
  have ho7 : Ow w7 (m.g + 1) 31 3 a' (s.n + 1) c' (capsL (f p ++ [c])) := by simpa [capsL, encC] using o7
  have hSK : ∀ j, Blk s.a j → ∃ k ∈ m.K, Blk k.s.a j := fun j hj => by
    rcases hs with hk | ⟨rfl, _, _⟩
    · exact ⟨_, hk, hj⟩
    · obtain ⟨x, hx, _⟩ := hj
      cases hx
  have hold : ∀ k ∈ m.K, ∀ j, Blk k.s.a j → j < U.heap.size := fun k hk j hj => ((h.known.each k hk).1.blk j hj).2
  obtain ⟨w8, K', r8, m8, hin, b8⟩ := h.known.set hp (s' := ⟨a', s.n + 1, c'⟩) (l' := f p ++ [c]) hs b7 (fun hj => by
    obtain ⟨es, clk, h1, _⟩ := h.known.out.ex
    exact map_ne h1 ho hj) (fun j hj => hj) ho7 (by simp [hn]) (fun j hj => by
    rcases n7 j hj with h1 | h1
    · exact .inl h1
    · exact .inr (fun k hk hj2 => by have := hold k hk j hj2; omega))
  have hb7 : But (fun j => j = m.bk ∨ ∃ k ∈ m.K, Blk k.s.a j) U w7 := b7.mono (fun j hj => .inr (hSK j hj))
  have hb8 : But (fun j => j = m.bk ∨ ∃ k ∈ m.K, Blk k.s.a j) U w8 := hb7.trans (b8.mono (fun j e => .inl e))
  have hnew : ∀ x ∈ K', ∀ j, Blk x.s.a j → (∃ k ∈ m.K, Blk k.s.a j) ∨ U.heap.size ≤ j := fun x hx j hj => by
    rcases (hin x).1 hx with rfl | ⟨h1, _⟩
    · exact (n7 j hj).imp (hSK j) id
    · exact .inl ⟨x, h1, hj⟩
  obtain ⟨q1, q2, q3⟩ := h.known_to hb8 (fun j hj => hj) m8 (fun x hx j hj => (hnew x hx j hj).imp id (fun h1 h2 => by have := h.own_lt j h2; omega))
  refine ⟨_, _, w7, w8, fun U' hU' => ((h.known.later hU').look hp hs).1, r7, r8, ⟨K', q1, hv.set hin (fun x hx => ?_), fun j hj => ?_, fun x hx => ?_⟩, hb8, hb7⟩
  · rcases List.mem_append.1 hx with hx | hx
    · exact hf x hx
    · rw [List.mem_singleton.1 hx]
      exact hc
  · rcases q3 j hj with h1 | ⟨x, hx, hj2⟩
    · exact .inl h1
    · rcases hnew x hx j hj2 with h1 | h1
      · exact .inl (.inr (.inr h1))
      · exact .inr h1
  · rcases (hin x).1 hx with rfl | ⟨h1, _⟩
    · exact .inr (Nat.succ_pos _)
    · exact .inl h1
/-- A capability more in a process's list. -/
theorem Bw.lists_push {U : World} {m : Bm} (h : Bw U m) {f : Int → List Cp} (hv : Vl m.I f) {p : Int} (hp : I64 p) (c : Cp) (hc : c.far) (hl : (f p).length + 1 ≤ 1000000000) :
    ∃ v0 v7 w7 w8, (∀ U', Below U.heap.size U U' → (Instr.lookup 61 (.map (some m.bi)) (.int .i64 p) false).run Try.prog U' = .ok v0 U') ∧ (Builtin.append_ #[26, 26] 26 #[v0, .slice (some ⟨U.heap.size, 0, none⟩) 1 1]).run Try.prog (U.alloc (Obj.cells #[.int .i64 c.o, .int .u64 (c.h : Int), .int .u64 (c.l : Int)] 31)) = .ok v7 w7 ∧ (Instr.mapUpdate 61 (.map (some m.bi)) (.int .i64 p) v7).run Try.prog w7 = .ok () w8 ∧
      (∃ K', Bw w8 { m with I := K' } ∧ Vl K' (up1 f p (f p ++ [c])) ∧ (∀ j, Owb { m with I := K' } j → Owb m j ∨ U.heap.size ≤ j) ∧ ∀ x ∈ K', x ∈ m.I ∨ 0 < x.s.n) ∧ But (fun j => j = m.bi ∨ ∃ k ∈ m.I, Blk k.s.a j) U w8 ∧ But (fun j => j = m.bi ∨ ∃ k ∈ m.I, Blk k.s.a j) U w7 := by
  obtain ⟨s, hs, hf⟩ := hv.look p
  obtain ⟨hlk, ho, hn⟩ := h.lists.look hp hs
  have hgl : m.g < U.heap.size := h.lo m.g (by simp)
  obtain ⟨a', c', w7, r7, o7, b7, n7⟩ := ow_snoc9 26 31 _ 3 24 Try.underlying26 infoC3 rfl (by omega) (cs := [.int .i64 c.o, .int .u64 (c.h : Int), .int .u64 (c.l : Int)]) ho rfl (one3 _ _ _) (by omega) (by omega) (by omega)
  have ho7 : Ow w7 (m.g + 1) 31 3 a' (s.n + 1) c' (capsL (f p ++ [c])) := by simpa [capsL, encC] using o7
  have hSK : ∀ j, Blk s.a j → ∃ k ∈ m.I, Blk k.s.a j := fun j hj => by
    rcases hs with hk | ⟨rfl, _, _⟩
    · exact ⟨_, hk, hj⟩
    · obtain ⟨x, hx, _⟩ := hj
      cases hx
  have hold : ∀ k ∈ m.I, ∀ j, Blk k.s.a j → j < U.heap.size := fun k hk j hj => ((h.lists.each k hk).1.blk j hj).2
  obtain ⟨w8, K', r8, m8, hin, b8⟩ := h.lists.set hp (s' := ⟨a', s.n + 1, c'⟩) (l' := f p ++ [c]) hs b7 (fun hj => by
    obtain ⟨es, clk, h1, _⟩ := h.lists.out.ex
    exact map_ne h1 ho hj) (fun j hj => hj) ho7 (by simp [hn]) (fun j hj => by
    rcases n7 j hj with h1 | h1
    · exact .inl h1
    · exact .inr (fun k hk hj2 => by have := hold k hk j hj2; omega))
  have hb7 : But (fun j => j = m.bi ∨ ∃ k ∈ m.I, Blk k.s.a j) U w7 := b7.mono (fun j hj => .inr (hSK j hj))
  have hb8 : But (fun j => j = m.bi ∨ ∃ k ∈ m.I, Blk k.s.a j) U w8 := hb7.trans (b8.mono (fun j e => .inl e))
  have hnew : ∀ x ∈ K', ∀ j, Blk x.s.a j → (∃ k ∈ m.I, Blk k.s.a j) ∨ U.heap.size ≤ j := fun x hx j hj => by
    rcases (hin x).1 hx with rfl | ⟨h1, _⟩
    · exact (n7 j hj).imp (hSK j) id
    · exact .inl ⟨x, h1, hj⟩
  obtain ⟨q1, q2, q3⟩ := h.lists_to hb8 (fun j hj => hj) m8 (fun x hx j hj => (hnew x hx j hj).imp id (fun h1 h2 => by have := h.own_lt j h2; omega))
  refine ⟨_, _, w7, w8, fun U' hU' => ((h.lists.later hU').look hp hs).1, r7, r8, ⟨K', q1, hv.set hin (fun x hx => ?_), fun j hj => ?_, fun x hx => ?_⟩, hb8, hb7⟩
  · rcases List.mem_append.1 hx with hx | hx
    · exact hf x hx
    · rw [List.mem_singleton.1 hx]
      exact hc
  · rcases q3 j hj with h1 | ⟨x, hx, hj2⟩
    · exact .inl h1
    · rcases hnew x hx j hj2 with h1 | h1
      · exact .inl (.inr (.inl h1))
      · exact .inr h1
  · rcases (hin x).1 hx with rfl | ⟨h1, _⟩
    · exact .inr (Nat.succ_pos _)
    · exact .inl h1
set_option maxRecDepth 100000 in
set_option maxHeartbeats 4000000 in
theorem tell_stop (m : Bm) (s0 kd by_ tt o : Int) (ch cl : Nat) (ah : Option Addr) (r : Option Value) (w : World) (h : Bw w m) (hc : Cp.far ⟨o, ch, cl⟩) (hp : I64 tt) (hg : Gt m.T tt (fmV (fmR ⟨o, ch, cl⟩)) r) (hh : (r.isSome || !hasF ⟨o, ch, cl⟩) = true) :
    Calls Try.prog 34 #[.pointer (some ⟨m.g, 0, none⟩), .agg #[.int .i64 s0, .int .i64 kd, .int .i64 by_, .int .i64 tt, .int .i64 o, .int .u64 (ch : Int), .int .u64 (cl : Int)], .pointer ah] w fun e w' => e = .returned (.tuple #[]) ∧ Below w.heap.size w w' := by
  obtain ⟨W, hW⟩ : ∃ W, W = w.alloc (Obj.cells #[.int .i64 s0, .int .i64 kd, .int .i64 by_, .int .i64 tt, .int .i64 o, .int .u64 (ch : Int), .int .u64 (cl : Int)] 46) := ⟨_, rfl⟩
  have hB : Below w.heap.size w W := by rw [hW]; exact below1 _ _
  have HX0 : Hid (Bx W w.heap.size [.int .i64 s0, .int .i64 kd, .int .i64 by_, .int .i64 tt, .int .i64 o, .int .u64 (ch : Int), .int .u64 (cl : Int)]) := by rw [hW]; exact Bx.new w [.int .i64 s0, .int .i64 kd, .int .i64 by_, .int .i64 tt, .int .i64 o, .int .u64 (ch : Int), .int .u64 (cl : Int)] _
  have c4 := HX0.out.cell 4 rfl
  have c5 := HX0.out.cell 5 rfl
  have c6 := HX0.out.cell 6 rfl
  have HFo := hid (formOf_any ⟨o, ch, cl⟩ hc W)
  have hFl : (fmR ⟨o, ch, cl⟩).length = 24 := by unfold fmR; split; exact frm_len _; rfl
  have hFs : ∀ x ∈ fmR ⟨o, ch, cl⟩, x < 256 := by
    unfold fmR
    split
    · exact frm_sml _
    · intro x hx
      have := (List.mem_replicate.1 hx).2
      omega
  have HLo : Hid (∀ U, Below w.heap.size w U → Calls Try.prog 40 #[.map (some m.bt), .int .i64 tt, fmV (fmR ⟨o, ch, cl⟩)] U fun e w' => e = .returned (.tuple #[r.getD (.pointer none), .bool r.isSome]) ∧ Below U.heap.size U w') := fun U hU => lookF_any m.bt m.T tt (fmR ⟨o, ch, cl⟩) r U ((h.later hU).told) hp hFl hFs hg
  have HH := hid h
  have HB := hid hB
  have HW := hid hW
  have HFl := hid hFl
  generalize fmR ⟨o, ch, cl⟩ = F at HFo HLo HFl
  generalize hasF ⟨o, ch, cl⟩ = hb at HFo hh
  generalize r.getD (.pointer none) = rv at HLo
  generalize r.isSome = rb at HLo hh
  clear h hB hW hg hc hFl hFs
  cases rb with
  | true =>
    cases hb with
    | true =>
      clear hh
      go_enter Try.func34, Try.ntmps34
      go_upto_region 1 with fail
      rw [← HW.out]
      go_upto_region 2 with (first | (go_at_call 44; refine HFo.out.mono ?_; rintro x w2 ⟨rfl, hb2⟩; have HB2 := hid hb2; (have HZx : Hid (Bx (w2.alloc (Obj.cells #[.int .u8 0, .int .u8 0, .int .u8 0, .int .u8 0, .int .u8 0, .int .u8 0, .int .u8 0, .int .u8 0, .int .u8 0, .int .u8 0, .int .u8 0, .int .u8 0, .int .u8 0, .int .u8 0, .int .u8 0, .int .u8 0, .int .u8 0, .int .u8 0, .int .u8 0, .int .u8 0, .int .u8 0, .int .u8 0, .int .u8 0, .int .u8 0] 95)) w2.heap.size (u8s zF)) := Bx.new w2 (u8s zF) _); (have HSt := hid (stFm (L := u8s F) (w := w2.alloc (Obj.cells #[.int .u8 0, .int .u8 0, .int .u8 0, .int .u8 0, .int .u8 0, .int .u8 0, .int .u8 0, .int .u8 0, .int .u8 0, .int .u8 0, .int .u8 0, .int .u8 0, .int .u8 0, .int .u8 0, .int .u8 0, .int .u8 0, .int .u8 0, .int .u8 0, .int .u8 0, .int .u8 0, .int .u8 0, .int .u8 0, .int .u8 0, .int .u8 0] 95)) (b := w2.heap.size) (o := 0) (by have := HZx.out.there; rwa [u8s_length, show zF.length = 24 from rfl] at this) (by rw [u8s_length]; exact HFl.out) (u8s_one F))); clear hb2) | ((with_reducible refine st_arm HSt.out ?_ ?_ ?_); (· rfl); (· rfl)))
      obtain ⟨V2, hV2⟩ : ∃ V, V = (w2.alloc (Obj.cells #[.int .u8 0, .int .u8 0, .int .u8 0, .int .u8 0, .int .u8 0, .int .u8 0, .int .u8 0, .int .u8 0, .int .u8 0, .int .u8 0, .int .u8 0, .int .u8 0, .int .u8 0, .int .u8 0, .int .u8 0, .int .u8 0, .int .u8 0, .int .u8 0, .int .u8 0, .int .u8 0, .int .u8 0, .int .u8 0, .int .u8 0, .int .u8 0] 95)).setCells w2.heap.size 0 (u8s F) := ⟨_, rfl⟩
      rw [← hV2]
      obtain ⟨kf, hkf⟩ : ∃ k, k = w2.heap.size := ⟨_, rfl⟩
      have HBv : Hid (Below w2.heap.size w2 V2) := by rw [hV2]; exact But.below (below1 _ _) (setCells_but (S := (· = w2.heap.size)) rfl (u8s F) 0 (But.refl _ _)) (fun k hk => by omega)
      have HXf : Hid (Bx V2 kf (u8s F)) := by rw [hkf, hV2]; exact HZx.out.set (by rw [u8s_length, u8s_length, HFl.out]; rfl)
      have HX2 : Hid (Bx V2 w.heap.size [.int .i64 s0, .int .i64 kd, .int .i64 by_, .int .i64 tt, .int .i64 o, .int .u64 (ch : Int), .int .u64 (cl : Int)]) := (HX0.out.later HB2.out).later HBv.out
      have HBw : Hid (Below w.heap.size w V2) := below_call HB.out (below_call HB2.out HBv.out)
      rw [← hkf]
      clear c4 c5 c6 hV2 hkf HZx HSt HB2 HBv HX0 HFo HW HB
      have HSA : Hid (∀ U, Below V2.heap.size V2 U → (U.rangeAt m.g 0 m.cells ∧ U.rangeAt w.heap.size 0 [.int .i64 s0, .int .i64 kd, .int .i64 by_, .int .i64 tt, .int .i64 o, .int .u64 (ch : Int), .int .u64 (cl : Int)] ∧ U.rangeAt kf 0 (u8s F))) := fun U hU => ⟨((HH.out.later HBw.out).bx.later hU).range, (HX2.out.later hU).range, (HXf.out.later hU).range⟩
      refine wp_region_held_drew (S := (fun U : World => U.rangeAt m.g 0 m.cells ∧ U.rangeAt w.heap.size 0 [.int .i64 s0, .int .i64 kd, .int .i64 by_, .int .i64 tt, .int .i64 o, .int .u64 (ch : Int), .int .u64 (cl : Int)] ∧ U.rangeAt kf 0 (u8s F))) (by kernel_rfl) (HSA.out _ (Below.refl _ _).drew) (fun hHeld => ?_)
      refine wpAnyH_norm (l2 := #[false, false, false, false, false, false, false, false, false, false, false, false, false]) (f2 := 13) (by kernel_rfl) (by kernel_rfl) ?_
      refine wpAnyH_take (i := 0) (oi := _) (v := ?_) rfl (by kernel_rfl) (by kernel_rfl) (by kernel_rfl) (fun _ _ _ h => h) (Or.inl ⟨by rfl, ?_⟩) (by assumption) ?_
      rotate_left
      · (intro w hSw; (try dsimp only at hSw); go_simp; try with_reducible rfl)
      simp only [List.getElem_toArray, List.getElem_cons_succ, List.getElem_cons_zero, Act.put, List.setIfInBounds_toArray, List.set_cons_zero, List.set_cons_succ]
      refine wpAnyH_norm (l2 := #[true, false, false, false, false, false, false, false, false, false, false, false, false]) (f2 := 12) (by kernel_rfl) (by kernel_rfl) ?_
      refine wpAnyH_take (i := 1) (oi := _) (v := ?_) rfl (by kernel_rfl) (by kernel_rfl) (by kernel_rfl) (fun _ _ _ h => h) (Or.inl ⟨by rfl, ?_⟩) (by assumption) ?_
      rotate_left
      · (intro w hSw; (try dsimp only at hSw); go_simp; try with_reducible rfl)
      simp only [List.getElem_toArray, List.getElem_cons_succ, List.getElem_cons_zero, Act.put, List.setIfInBounds_toArray, List.set_cons_zero, List.set_cons_succ]
      refine wpAnyH_norm (l2 := #[true, true, false, false, false, false, false, false, false, false, false, false, false]) (f2 := 11) (by kernel_rfl) (by kernel_rfl) ?_
      refine wpAnyH_take (i := 2) (oi := _) (v := ?_) rfl (by kernel_rfl) (by kernel_rfl) (by kernel_rfl) (fun _ _ _ h => h) (Or.inl ⟨by rfl, ?_⟩) (by assumption) ?_
      rotate_left
      · (intro w hSw; (try dsimp only at hSw); go_simp; try with_reducible rfl)
      simp only [List.getElem_toArray, List.getElem_cons_succ, List.getElem_cons_zero, Act.put, List.setIfInBounds_toArray, List.set_cons_zero, List.set_cons_succ]
      refine wpAnyH_norm (l2 := #[true, true, true, false, false, false, false, false, false, false, false, false, false]) (f2 := 10) (by kernel_rfl) (by kernel_rfl) ?_
      refine wpAnyH_take (i := 3) (oi := _) (v := ?_) rfl (by kernel_rfl) (by kernel_rfl) (by kernel_rfl) (fun _ _ _ h => h) (Or.inl ⟨by rfl, ?_⟩) (by assumption) ?_
      rotate_left
      · (intro w hSw; have z1 := rg_at (j := 4) hSw.1 rfl; go_simp; try with_reducible rfl)
      simp only [List.getElem_toArray, List.getElem_cons_succ, List.getElem_cons_zero, Act.put, List.setIfInBounds_toArray, List.set_cons_zero, List.set_cons_succ]
      refine wpAnyH_norm (l2 := #[true, true, true, true, false, false, false, false, false, false, false, false, false]) (f2 := 9) (by kernel_rfl) (by kernel_rfl) ?_
      refine wpAnyH_take (i := 4) (oi := _) (v := ?_) rfl (by kernel_rfl) (by kernel_rfl) (by kernel_rfl) (fun _ _ _ h => h) (Or.inl ⟨by rfl, ?_⟩) (by assumption) ?_
      rotate_left
      · (intro w hSw; (try dsimp only at hSw); go_simp; try with_reducible rfl)
      simp only [List.getElem_toArray, List.getElem_cons_succ, List.getElem_cons_zero, Act.put, List.setIfInBounds_toArray, List.set_cons_zero, List.set_cons_succ]
      refine wpAnyH_norm (l2 := #[true, true, true, true, true, false, false, false, false, false, false, false, false]) (f2 := 8) (by kernel_rfl) (by kernel_rfl) ?_
      refine wpAnyH_take (i := 5) (oi := _) (v := ?_) rfl (by kernel_rfl) (by kernel_rfl) (by kernel_rfl) (fun _ _ _ h => h) (Or.inl ⟨by rfl, ?_⟩) (by assumption) ?_
      rotate_left
      · (intro w hSw; have z0 := rg_at (j := 3) hSw.2.1 rfl; go_simp; try with_reducible rfl)
      simp only [List.getElem_toArray, List.getElem_cons_succ, List.getElem_cons_zero, Act.put, List.setIfInBounds_toArray, List.set_cons_zero, List.set_cons_succ]
      refine wpAnyH_norm (l2 := #[true, true, true, true, true, true, false, false, false, false, false, false, false]) (f2 := 7) (by kernel_rfl) (by kernel_rfl) ?_
      refine wpAnyH_take (i := 6) (oi := _) (v := fmV F) rfl (by kernel_rfl) (by kernel_rfl) (by kernel_rfl) (fun _ _ _ h => h) (Or.inl ⟨by rfl, ?_⟩) (by assumption) ?_
      · (intro w hSw; (try dsimp only at hSw); exact ex_ld rfl rfl (ldFm hSw.2.2 (by rw [u8s_length]; exact HFl.out)))
      simp only [List.getElem_toArray, List.getElem_cons_succ, List.getElem_cons_zero, Act.put, List.setIfInBounds_toArray, List.set_cons_zero, List.set_cons_succ]
      refine wpAnyH_norm (l2 := #[true, true, true, true, true, true, true, false, false, false, false, false, false]) (f2 := 6) (by kernel_rfl) (by kernel_rfl) ?_
      refine wpAnyH_ready (rs := [7]) (by kernel_rfl) (by simp) ?_
      refine AllReadyH.cons rfl (fun K hK => ?_) AllReadyH.nil
      go_simp
      go_wp2_with (first | (go_at_call 40; refine (HLo.out _ (below_call HBw.out (Below.refl _ _).drew)).mono ?_; rintro e w3 ⟨rfl, hb3⟩))
      have HB3 : Hid (Below V2.heap.size V2 w3) := below_call (Below.refl _ _).drew hb3
      clear hb3
      refine hK.out _ _ (HSA.out _ HB3.out) (fun hHeld => ?_)
      clear hK K
      simp only [List.getElem_toArray, List.getElem_cons_succ, List.getElem_cons_zero, Act.put, List.setIfInBounds_toArray, List.set_cons_zero, List.set_cons_succ]
      refine wpAnyH_norm (l2 := #[true, true, true, true, true, true, true, true, false, false, false, false, false]) (f2 := 5) (by kernel_rfl) (by kernel_rfl) ?_
      refine wpAnyH_take (i := 8) (oi := _) (v := ?_) rfl (by kernel_rfl) (by kernel_rfl) (by kernel_rfl) (fun _ _ _ h => h) (Or.inl ⟨by rfl, ?_⟩) (by assumption) ?_
      rotate_left
      · (intro w hSw; (try dsimp only at hSw); go_simp; try with_reducible rfl)
      simp only [List.getElem_toArray, List.getElem_cons_succ, List.getElem_cons_zero, Act.put, List.setIfInBounds_toArray, List.set_cons_zero, List.set_cons_succ]
      refine wpAnyH_norm (l2 := #[true, true, true, true, true, true, true, true, true, false, false, false, false]) (f2 := 4) (by kernel_rfl) (by kernel_rfl) ?_
      refine wpAnyH_take (i := 9) (oi := _) (v := ?_) rfl (by kernel_rfl) (by kernel_rfl) (by kernel_rfl) (fun _ _ _ h => h) (Or.inl ⟨by rfl, ?_⟩) (by assumption) ?_
      rotate_left
      · (intro w hSw; (try dsimp only at hSw); go_simp; try with_reducible rfl)
      simp only [List.getElem_toArray, List.getElem_cons_succ, List.getElem_cons_zero, Act.put, List.setIfInBounds_toArray, List.set_cons_zero, List.set_cons_succ]
      refine wpAnyH_norm (l2 := #[true, true, true, true, true, true, true, true, true, true, false, false, false]) (f2 := 3) (by kernel_rfl) (by kernel_rfl) ?_
      refine wpAnyH_take (i := 10) (oi := _) (v := ?_) rfl (by kernel_rfl) (by kernel_rfl) (by kernel_rfl) (fun _ _ _ h => h) (Or.inl ⟨by rfl, ?_⟩) (by assumption) ?_
      rotate_left
      · (intro w hSw; (try dsimp only at hSw); go_simp; try with_reducible rfl)
      simp only [List.getElem_toArray, List.getElem_cons_succ, List.getElem_cons_zero, Act.put, List.setIfInBounds_toArray, List.set_cons_zero, List.set_cons_succ]
      refine wpAnyH_norm (l2 := #[true, true, true, true, true, true, true, true, true, true, true, false, false]) (f2 := 2) (by kernel_rfl) (by kernel_rfl) ?_
      refine wpAnyH_take (i := 11) (oi := _) (v := ?_) rfl (by kernel_rfl) (by kernel_rfl) (by kernel_rfl) (fun _ _ _ h => h) (Or.inl ⟨by rfl, ?_⟩) (by assumption) ?_
      rotate_left
      · (intro w hSw; (try dsimp only at hSw); go_simp; try with_reducible rfl)
      simp only [List.getElem_toArray, List.getElem_cons_succ, List.getElem_cons_zero, Act.put, List.setIfInBounds_toArray, List.set_cons_zero, List.set_cons_succ]
      refine wpAnyH_norm (l2 := #[true, true, true, true, true, true, true, true, true, true, true, true, false]) (f2 := 1) (by kernel_rfl) (by kernel_rfl) ?_
      refine wpAnyH_take (i := 12) (oi := _) (v := ?_) rfl (by kernel_rfl) (by kernel_rfl) (by kernel_rfl) (fun _ _ _ h => h) (Or.inl ⟨by rfl, ?_⟩) (by assumption) ?_
      rotate_left
      · (intro w hSw; (try dsimp only at hSw); go_simp; try with_reducible rfl)
      simp only [List.getElem_toArray, List.getElem_cons_succ, List.getElem_cons_zero, Act.put, List.setIfInBounds_toArray, List.set_cons_zero, List.set_cons_succ]
      refine wpAnyH_norm (l2 := #[true, true, true, true, true, true, true, true, true, true, true, true, true]) (f2 := 0) (by kernel_rfl) (by kernel_rfl) ?_
      refine wpAnyH_done (by kernel_rfl) ?_ _
      go_wp2
      exact bodyPost_ret (v := .tuple #[]) (by simp [results, Try.results34, go_sem]) rfl ⟨rfl, below_call HBw.out HB3.out⟩
    | false =>
      clear hh
      go_enter Try.func34, Try.ntmps34
      go_upto_region 1 with fail
      rw [← HW.out]
      go_upto_region 2 with (first | (go_at_call 44; refine HFo.out.mono ?_; rintro x w2 ⟨rfl, hb2⟩; have HB2 := hid hb2; (have HZx : Hid (Bx (w2.alloc (Obj.cells #[.int .u8 0, .int .u8 0, .int .u8 0, .int .u8 0, .int .u8 0, .int .u8 0, .int .u8 0, .int .u8 0, .int .u8 0, .int .u8 0, .int .u8 0, .int .u8 0, .int .u8 0, .int .u8 0, .int .u8 0, .int .u8 0, .int .u8 0, .int .u8 0, .int .u8 0, .int .u8 0, .int .u8 0, .int .u8 0, .int .u8 0, .int .u8 0] 95)) w2.heap.size (u8s zF)) := Bx.new w2 (u8s zF) _); (have HSt := hid (stFm (L := u8s F) (w := w2.alloc (Obj.cells #[.int .u8 0, .int .u8 0, .int .u8 0, .int .u8 0, .int .u8 0, .int .u8 0, .int .u8 0, .int .u8 0, .int .u8 0, .int .u8 0, .int .u8 0, .int .u8 0, .int .u8 0, .int .u8 0, .int .u8 0, .int .u8 0, .int .u8 0, .int .u8 0, .int .u8 0, .int .u8 0, .int .u8 0, .int .u8 0, .int .u8 0, .int .u8 0] 95)) (b := w2.heap.size) (o := 0) (by have := HZx.out.there; rwa [u8s_length, show zF.length = 24 from rfl] at this) (by rw [u8s_length]; exact HFl.out) (u8s_one F))); clear hb2) | ((with_reducible refine st_arm HSt.out ?_ ?_ ?_); (· rfl); (· rfl)))
      obtain ⟨V2, hV2⟩ : ∃ V, V = (w2.alloc (Obj.cells #[.int .u8 0, .int .u8 0, .int .u8 0, .int .u8 0, .int .u8 0, .int .u8 0, .int .u8 0, .int .u8 0, .int .u8 0, .int .u8 0, .int .u8 0, .int .u8 0, .int .u8 0, .int .u8 0, .int .u8 0, .int .u8 0, .int .u8 0, .int .u8 0, .int .u8 0, .int .u8 0, .int .u8 0, .int .u8 0, .int .u8 0, .int .u8 0] 95)).setCells w2.heap.size 0 (u8s F) := ⟨_, rfl⟩
      rw [← hV2]
      obtain ⟨kf, hkf⟩ : ∃ k, k = w2.heap.size := ⟨_, rfl⟩
      have HBv : Hid (Below w2.heap.size w2 V2) := by rw [hV2]; exact But.below (below1 _ _) (setCells_but (S := (· = w2.heap.size)) rfl (u8s F) 0 (But.refl _ _)) (fun k hk => by omega)
      have HXf : Hid (Bx V2 kf (u8s F)) := by rw [hkf, hV2]; exact HZx.out.set (by rw [u8s_length, u8s_length, HFl.out]; rfl)
      have HX2 : Hid (Bx V2 w.heap.size [.int .i64 s0, .int .i64 kd, .int .i64 by_, .int .i64 tt, .int .i64 o, .int .u64 (ch : Int), .int .u64 (cl : Int)]) := (HX0.out.later HB2.out).later HBv.out
      have HBw : Hid (Below w.heap.size w V2) := below_call HB.out (below_call HB2.out HBv.out)
      rw [← hkf]
      clear c4 c5 c6 hV2 hkf HZx HSt HB2 HBv HX0 HFo HW HB
      have HSA : Hid (∀ U, Below V2.heap.size V2 U → (U.rangeAt m.g 0 m.cells ∧ U.rangeAt w.heap.size 0 [.int .i64 s0, .int .i64 kd, .int .i64 by_, .int .i64 tt, .int .i64 o, .int .u64 (ch : Int), .int .u64 (cl : Int)] ∧ U.rangeAt kf 0 (u8s F))) := fun U hU => ⟨((HH.out.later HBw.out).bx.later hU).range, (HX2.out.later hU).range, (HXf.out.later hU).range⟩
      refine wp_region_held_drew (S := (fun U : World => U.rangeAt m.g 0 m.cells ∧ U.rangeAt w.heap.size 0 [.int .i64 s0, .int .i64 kd, .int .i64 by_, .int .i64 tt, .int .i64 o, .int .u64 (ch : Int), .int .u64 (cl : Int)] ∧ U.rangeAt kf 0 (u8s F))) (by kernel_rfl) (HSA.out _ (Below.refl _ _).drew) (fun hHeld => ?_)
      refine wpAnyH_norm (l2 := #[false, false, false, false, false, false, false, false, false, false, false, false, false]) (f2 := 13) (by kernel_rfl) (by kernel_rfl) ?_
      refine wpAnyH_take (i := 0) (oi := _) (v := ?_) rfl (by kernel_rfl) (by kernel_rfl) (by kernel_rfl) (fun _ _ _ h => h) (Or.inl ⟨by rfl, ?_⟩) (by assumption) ?_
      rotate_left
      · (intro w hSw; (try dsimp only at hSw); go_simp; try with_reducible rfl)
      simp only [List.getElem_toArray, List.getElem_cons_succ, List.getElem_cons_zero, Act.put, List.setIfInBounds_toArray, List.set_cons_zero, List.set_cons_succ]
      refine wpAnyH_norm (l2 := #[true, false, false, false, false, false, false, false, false, false, false, false, false]) (f2 := 12) (by kernel_rfl) (by kernel_rfl) ?_
      refine wpAnyH_take (i := 1) (oi := _) (v := ?_) rfl (by kernel_rfl) (by kernel_rfl) (by kernel_rfl) (fun _ _ _ h => h) (Or.inl ⟨by rfl, ?_⟩) (by assumption) ?_
      rotate_left
      · (intro w hSw; (try dsimp only at hSw); go_simp; try with_reducible rfl)
      simp only [List.getElem_toArray, List.getElem_cons_succ, List.getElem_cons_zero, Act.put, List.setIfInBounds_toArray, List.set_cons_zero, List.set_cons_succ]
      refine wpAnyH_norm (l2 := #[true, true, false, false, false, false, false, false, false, false, false, false, false]) (f2 := 11) (by kernel_rfl) (by kernel_rfl) ?_
      refine wpAnyH_take (i := 2) (oi := _) (v := ?_) rfl (by kernel_rfl) (by kernel_rfl) (by kernel_rfl) (fun _ _ _ h => h) (Or.inl ⟨by rfl, ?_⟩) (by assumption) ?_
      rotate_left
      · (intro w hSw; (try dsimp only at hSw); go_simp; try with_reducible rfl)
      simp only [List.getElem_toArray, List.getElem_cons_succ, List.getElem_cons_zero, Act.put, List.setIfInBounds_toArray, List.set_cons_zero, List.set_cons_succ]
      refine wpAnyH_norm (l2 := #[true, true, true, false, false, false, false, false, false, false, false, false, false]) (f2 := 10) (by kernel_rfl) (by kernel_rfl) ?_
      refine wpAnyH_take (i := 3) (oi := _) (v := ?_) rfl (by kernel_rfl) (by kernel_rfl) (by kernel_rfl) (fun _ _ _ h => h) (Or.inl ⟨by rfl, ?_⟩) (by assumption) ?_
      rotate_left
      · (intro w hSw; have z1 := rg_at (j := 4) hSw.1 rfl; go_simp; try with_reducible rfl)
      simp only [List.getElem_toArray, List.getElem_cons_succ, List.getElem_cons_zero, Act.put, List.setIfInBounds_toArray, List.set_cons_zero, List.set_cons_succ]
      refine wpAnyH_norm (l2 := #[true, true, true, true, false, false, false, false, false, false, false, false, false]) (f2 := 9) (by kernel_rfl) (by kernel_rfl) ?_
      refine wpAnyH_take (i := 4) (oi := _) (v := ?_) rfl (by kernel_rfl) (by kernel_rfl) (by kernel_rfl) (fun _ _ _ h => h) (Or.inl ⟨by rfl, ?_⟩) (by assumption) ?_
      rotate_left
      · (intro w hSw; (try dsimp only at hSw); go_simp; try with_reducible rfl)
      simp only [List.getElem_toArray, List.getElem_cons_succ, List.getElem_cons_zero, Act.put, List.setIfInBounds_toArray, List.set_cons_zero, List.set_cons_succ]
      refine wpAnyH_norm (l2 := #[true, true, true, true, true, false, false, false, false, false, false, false, false]) (f2 := 8) (by kernel_rfl) (by kernel_rfl) ?_
      refine wpAnyH_take (i := 5) (oi := _) (v := ?_) rfl (by kernel_rfl) (by kernel_rfl) (by kernel_rfl) (fun _ _ _ h => h) (Or.inl ⟨by rfl, ?_⟩) (by assumption) ?_
      rotate_left
      · (intro w hSw; have z0 := rg_at (j := 3) hSw.2.1 rfl; go_simp; try with_reducible rfl)
      simp only [List.getElem_toArray, List.getElem_cons_succ, List.getElem_cons_zero, Act.put, List.setIfInBounds_toArray, List.set_cons_zero, List.set_cons_succ]
      refine wpAnyH_norm (l2 := #[true, true, true, true, true, true, false, false, false, false, false, false, false]) (f2 := 7) (by kernel_rfl) (by kernel_rfl) ?_
      refine wpAnyH_take (i := 6) (oi := _) (v := fmV F) rfl (by kernel_rfl) (by kernel_rfl) (by kernel_rfl) (fun _ _ _ h => h) (Or.inl ⟨by rfl, ?_⟩) (by assumption) ?_
      · (intro w hSw; (try dsimp only at hSw); exact ex_ld rfl rfl (ldFm hSw.2.2 (by rw [u8s_length]; exact HFl.out)))
      simp only [List.getElem_toArray, List.getElem_cons_succ, List.getElem_cons_zero, Act.put, List.setIfInBounds_toArray, List.set_cons_zero, List.set_cons_succ]
      refine wpAnyH_norm (l2 := #[true, true, true, true, true, true, true, false, false, false, false, false, false]) (f2 := 6) (by kernel_rfl) (by kernel_rfl) ?_
      refine wpAnyH_ready (rs := [7]) (by kernel_rfl) (by simp) ?_
      refine AllReadyH.cons rfl (fun K hK => ?_) AllReadyH.nil
      go_simp
      go_wp2_with (first | (go_at_call 40; refine (HLo.out _ (below_call HBw.out (Below.refl _ _).drew)).mono ?_; rintro e w3 ⟨rfl, hb3⟩))
      have HB3 : Hid (Below V2.heap.size V2 w3) := below_call (Below.refl _ _).drew hb3
      clear hb3
      refine hK.out _ _ (HSA.out _ HB3.out) (fun hHeld => ?_)
      clear hK K
      simp only [List.getElem_toArray, List.getElem_cons_succ, List.getElem_cons_zero, Act.put, List.setIfInBounds_toArray, List.set_cons_zero, List.set_cons_succ]
      refine wpAnyH_norm (l2 := #[true, true, true, true, true, true, true, true, false, false, false, false, false]) (f2 := 5) (by kernel_rfl) (by kernel_rfl) ?_
      refine wpAnyH_take (i := 8) (oi := _) (v := ?_) rfl (by kernel_rfl) (by kernel_rfl) (by kernel_rfl) (fun _ _ _ h => h) (Or.inl ⟨by rfl, ?_⟩) (by assumption) ?_
      rotate_left
      · (intro w hSw; (try dsimp only at hSw); go_simp; try with_reducible rfl)
      simp only [List.getElem_toArray, List.getElem_cons_succ, List.getElem_cons_zero, Act.put, List.setIfInBounds_toArray, List.set_cons_zero, List.set_cons_succ]
      refine wpAnyH_norm (l2 := #[true, true, true, true, true, true, true, true, true, false, false, false, false]) (f2 := 4) (by kernel_rfl) (by kernel_rfl) ?_
      refine wpAnyH_take (i := 9) (oi := _) (v := ?_) rfl (by kernel_rfl) (by kernel_rfl) (by kernel_rfl) (fun _ _ _ h => h) (Or.inl ⟨by rfl, ?_⟩) (by assumption) ?_
      rotate_left
      · (intro w hSw; (try dsimp only at hSw); go_simp; try with_reducible rfl)
      simp only [List.getElem_toArray, List.getElem_cons_succ, List.getElem_cons_zero, Act.put, List.setIfInBounds_toArray, List.set_cons_zero, List.set_cons_succ]
      refine wpAnyH_norm (l2 := #[true, true, true, true, true, true, true, true, true, true, false, false, false]) (f2 := 3) (by kernel_rfl) (by kernel_rfl) ?_
      refine wpAnyH_take (i := 10) (oi := _) (v := ?_) rfl (by kernel_rfl) (by kernel_rfl) (by kernel_rfl) (fun _ _ _ h => h) (Or.inl ⟨by rfl, ?_⟩) (by assumption) ?_
      rotate_left
      · (intro w hSw; (try dsimp only at hSw); go_simp; try with_reducible rfl)
      simp only [List.getElem_toArray, List.getElem_cons_succ, List.getElem_cons_zero, Act.put, List.setIfInBounds_toArray, List.set_cons_zero, List.set_cons_succ]
      refine wpAnyH_norm (l2 := #[true, true, true, true, true, true, true, true, true, true, true, false, false]) (f2 := 2) (by kernel_rfl) (by kernel_rfl) ?_
      refine wpAnyH_take (i := 11) (oi := _) (v := ?_) rfl (by kernel_rfl) (by kernel_rfl) (by kernel_rfl) (fun _ _ _ h => h) (Or.inl ⟨by rfl, ?_⟩) (by assumption) ?_
      rotate_left
      · (intro w hSw; (try dsimp only at hSw); go_simp; try with_reducible rfl)
      simp only [List.getElem_toArray, List.getElem_cons_succ, List.getElem_cons_zero, Act.put, List.setIfInBounds_toArray, List.set_cons_zero, List.set_cons_succ]
      refine wpAnyH_norm (l2 := #[true, true, true, true, true, true, true, true, true, true, true, true, false]) (f2 := 1) (by kernel_rfl) (by kernel_rfl) ?_
      refine wpAnyH_take (i := 12) (oi := _) (v := ?_) rfl (by kernel_rfl) (by kernel_rfl) (by kernel_rfl) (fun _ _ _ h => h) (Or.inl ⟨by rfl, ?_⟩) (by assumption) ?_
      rotate_left
      · (intro w hSw; (try dsimp only at hSw); go_simp; try with_reducible rfl)
      simp only [List.getElem_toArray, List.getElem_cons_succ, List.getElem_cons_zero, Act.put, List.setIfInBounds_toArray, List.set_cons_zero, List.set_cons_succ]
      refine wpAnyH_norm (l2 := #[true, true, true, true, true, true, true, true, true, true, true, true, true]) (f2 := 0) (by kernel_rfl) (by kernel_rfl) ?_
      refine wpAnyH_done (by kernel_rfl) ?_ _
      go_wp2
      exact bodyPost_ret (v := .tuple #[]) (by simp [results, Try.results34, go_sem]) rfl ⟨rfl, below_call HBw.out HB3.out⟩
  | false =>
    cases hb with
    | true => cases hh
    | false =>
      clear hh
      go_enter Try.func34, Try.ntmps34
      go_upto_region 1 with fail
      rw [← HW.out]
      go_upto_region 2 with (first | (go_at_call 44; refine HFo.out.mono ?_; rintro x w2 ⟨rfl, hb2⟩; have HB2 := hid hb2; (have HZx : Hid (Bx (w2.alloc (Obj.cells #[.int .u8 0, .int .u8 0, .int .u8 0, .int .u8 0, .int .u8 0, .int .u8 0, .int .u8 0, .int .u8 0, .int .u8 0, .int .u8 0, .int .u8 0, .int .u8 0, .int .u8 0, .int .u8 0, .int .u8 0, .int .u8 0, .int .u8 0, .int .u8 0, .int .u8 0, .int .u8 0, .int .u8 0, .int .u8 0, .int .u8 0, .int .u8 0] 95)) w2.heap.size (u8s zF)) := Bx.new w2 (u8s zF) _); (have HSt := hid (stFm (L := u8s F) (w := w2.alloc (Obj.cells #[.int .u8 0, .int .u8 0, .int .u8 0, .int .u8 0, .int .u8 0, .int .u8 0, .int .u8 0, .int .u8 0, .int .u8 0, .int .u8 0, .int .u8 0, .int .u8 0, .int .u8 0, .int .u8 0, .int .u8 0, .int .u8 0, .int .u8 0, .int .u8 0, .int .u8 0, .int .u8 0, .int .u8 0, .int .u8 0, .int .u8 0, .int .u8 0] 95)) (b := w2.heap.size) (o := 0) (by have := HZx.out.there; rwa [u8s_length, show zF.length = 24 from rfl] at this) (by rw [u8s_length]; exact HFl.out) (u8s_one F))); clear hb2) | ((with_reducible refine st_arm HSt.out ?_ ?_ ?_); (· rfl); (· rfl)))
      obtain ⟨V2, hV2⟩ : ∃ V, V = (w2.alloc (Obj.cells #[.int .u8 0, .int .u8 0, .int .u8 0, .int .u8 0, .int .u8 0, .int .u8 0, .int .u8 0, .int .u8 0, .int .u8 0, .int .u8 0, .int .u8 0, .int .u8 0, .int .u8 0, .int .u8 0, .int .u8 0, .int .u8 0, .int .u8 0, .int .u8 0, .int .u8 0, .int .u8 0, .int .u8 0, .int .u8 0, .int .u8 0, .int .u8 0] 95)).setCells w2.heap.size 0 (u8s F) := ⟨_, rfl⟩
      rw [← hV2]
      obtain ⟨kf, hkf⟩ : ∃ k, k = w2.heap.size := ⟨_, rfl⟩
      have HBv : Hid (Below w2.heap.size w2 V2) := by rw [hV2]; exact But.below (below1 _ _) (setCells_but (S := (· = w2.heap.size)) rfl (u8s F) 0 (But.refl _ _)) (fun k hk => by omega)
      have HXf : Hid (Bx V2 kf (u8s F)) := by rw [hkf, hV2]; exact HZx.out.set (by rw [u8s_length, u8s_length, HFl.out]; rfl)
      have HX2 : Hid (Bx V2 w.heap.size [.int .i64 s0, .int .i64 kd, .int .i64 by_, .int .i64 tt, .int .i64 o, .int .u64 (ch : Int), .int .u64 (cl : Int)]) := (HX0.out.later HB2.out).later HBv.out
      have HBw : Hid (Below w.heap.size w V2) := below_call HB.out (below_call HB2.out HBv.out)
      rw [← hkf]
      clear c4 c5 c6 hV2 hkf HZx HSt HB2 HBv HX0 HFo HW HB
      have HSA : Hid (∀ U, Below V2.heap.size V2 U → (U.rangeAt m.g 0 m.cells ∧ U.rangeAt w.heap.size 0 [.int .i64 s0, .int .i64 kd, .int .i64 by_, .int .i64 tt, .int .i64 o, .int .u64 (ch : Int), .int .u64 (cl : Int)] ∧ U.rangeAt kf 0 (u8s F))) := fun U hU => ⟨((HH.out.later HBw.out).bx.later hU).range, (HX2.out.later hU).range, (HXf.out.later hU).range⟩
      refine wp_region_held_drew (S := (fun U : World => U.rangeAt m.g 0 m.cells ∧ U.rangeAt w.heap.size 0 [.int .i64 s0, .int .i64 kd, .int .i64 by_, .int .i64 tt, .int .i64 o, .int .u64 (ch : Int), .int .u64 (cl : Int)] ∧ U.rangeAt kf 0 (u8s F))) (by kernel_rfl) (HSA.out _ (Below.refl _ _).drew) (fun hHeld => ?_)
      refine wpAnyH_norm (l2 := #[false, false, false, false, false, false, false, false, false, false, false, false, false]) (f2 := 13) (by kernel_rfl) (by kernel_rfl) ?_
      refine wpAnyH_take (i := 0) (oi := _) (v := ?_) rfl (by kernel_rfl) (by kernel_rfl) (by kernel_rfl) (fun _ _ _ h => h) (Or.inl ⟨by rfl, ?_⟩) (by assumption) ?_
      rotate_left
      · (intro w hSw; (try dsimp only at hSw); go_simp; try with_reducible rfl)
      simp only [List.getElem_toArray, List.getElem_cons_succ, List.getElem_cons_zero, Act.put, List.setIfInBounds_toArray, List.set_cons_zero, List.set_cons_succ]
      refine wpAnyH_norm (l2 := #[true, false, false, false, false, false, false, false, false, false, false, false, false]) (f2 := 12) (by kernel_rfl) (by kernel_rfl) ?_
      refine wpAnyH_take (i := 1) (oi := _) (v := ?_) rfl (by kernel_rfl) (by kernel_rfl) (by kernel_rfl) (fun _ _ _ h => h) (Or.inl ⟨by rfl, ?_⟩) (by assumption) ?_
      rotate_left
      · (intro w hSw; (try dsimp only at hSw); go_simp; try with_reducible rfl)
      simp only [List.getElem_toArray, List.getElem_cons_succ, List.getElem_cons_zero, Act.put, List.setIfInBounds_toArray, List.set_cons_zero, List.set_cons_succ]
      refine wpAnyH_norm (l2 := #[true, true, false, false, false, false, false, false, false, false, false, false, false]) (f2 := 11) (by kernel_rfl) (by kernel_rfl) ?_
      refine wpAnyH_take (i := 2) (oi := _) (v := ?_) rfl (by kernel_rfl) (by kernel_rfl) (by kernel_rfl) (fun _ _ _ h => h) (Or.inl ⟨by rfl, ?_⟩) (by assumption) ?_
      rotate_left
      · (intro w hSw; (try dsimp only at hSw); go_simp; try with_reducible rfl)
      simp only [List.getElem_toArray, List.getElem_cons_succ, List.getElem_cons_zero, Act.put, List.setIfInBounds_toArray, List.set_cons_zero, List.set_cons_succ]
      refine wpAnyH_norm (l2 := #[true, true, true, false, false, false, false, false, false, false, false, false, false]) (f2 := 10) (by kernel_rfl) (by kernel_rfl) ?_
      refine wpAnyH_take (i := 3) (oi := _) (v := ?_) rfl (by kernel_rfl) (by kernel_rfl) (by kernel_rfl) (fun _ _ _ h => h) (Or.inl ⟨by rfl, ?_⟩) (by assumption) ?_
      rotate_left
      · (intro w hSw; have z1 := rg_at (j := 4) hSw.1 rfl; go_simp; try with_reducible rfl)
      simp only [List.getElem_toArray, List.getElem_cons_succ, List.getElem_cons_zero, Act.put, List.setIfInBounds_toArray, List.set_cons_zero, List.set_cons_succ]
      refine wpAnyH_norm (l2 := #[true, true, true, true, false, false, false, false, false, false, false, false, false]) (f2 := 9) (by kernel_rfl) (by kernel_rfl) ?_
      refine wpAnyH_take (i := 4) (oi := _) (v := ?_) rfl (by kernel_rfl) (by kernel_rfl) (by kernel_rfl) (fun _ _ _ h => h) (Or.inl ⟨by rfl, ?_⟩) (by assumption) ?_
      rotate_left
      · (intro w hSw; (try dsimp only at hSw); go_simp; try with_reducible rfl)
      simp only [List.getElem_toArray, List.getElem_cons_succ, List.getElem_cons_zero, Act.put, List.setIfInBounds_toArray, List.set_cons_zero, List.set_cons_succ]
      refine wpAnyH_norm (l2 := #[true, true, true, true, true, false, false, false, false, false, false, false, false]) (f2 := 8) (by kernel_rfl) (by kernel_rfl) ?_
      refine wpAnyH_take (i := 5) (oi := _) (v := ?_) rfl (by kernel_rfl) (by kernel_rfl) (by kernel_rfl) (fun _ _ _ h => h) (Or.inl ⟨by rfl, ?_⟩) (by assumption) ?_
      rotate_left
      · (intro w hSw; have z0 := rg_at (j := 3) hSw.2.1 rfl; go_simp; try with_reducible rfl)
      simp only [List.getElem_toArray, List.getElem_cons_succ, List.getElem_cons_zero, Act.put, List.setIfInBounds_toArray, List.set_cons_zero, List.set_cons_succ]
      refine wpAnyH_norm (l2 := #[true, true, true, true, true, true, false, false, false, false, false, false, false]) (f2 := 7) (by kernel_rfl) (by kernel_rfl) ?_
      refine wpAnyH_take (i := 6) (oi := _) (v := fmV F) rfl (by kernel_rfl) (by kernel_rfl) (by kernel_rfl) (fun _ _ _ h => h) (Or.inl ⟨by rfl, ?_⟩) (by assumption) ?_
      · (intro w hSw; (try dsimp only at hSw); exact ex_ld rfl rfl (ldFm hSw.2.2 (by rw [u8s_length]; exact HFl.out)))
      simp only [List.getElem_toArray, List.getElem_cons_succ, List.getElem_cons_zero, Act.put, List.setIfInBounds_toArray, List.set_cons_zero, List.set_cons_succ]
      refine wpAnyH_norm (l2 := #[true, true, true, true, true, true, true, false, false, false, false, false, false]) (f2 := 6) (by kernel_rfl) (by kernel_rfl) ?_
      refine wpAnyH_ready (rs := [7]) (by kernel_rfl) (by simp) ?_
      refine AllReadyH.cons rfl (fun K hK => ?_) AllReadyH.nil
      go_simp
      go_wp2_with (first | (go_at_call 40; refine (HLo.out _ (below_call HBw.out (Below.refl _ _).drew)).mono ?_; rintro e w3 ⟨rfl, hb3⟩))
      have HB3 : Hid (Below V2.heap.size V2 w3) := below_call (Below.refl _ _).drew hb3
      clear hb3
      refine hK.out _ _ (HSA.out _ HB3.out) (fun hHeld => ?_)
      clear hK K
      simp only [List.getElem_toArray, List.getElem_cons_succ, List.getElem_cons_zero, Act.put, List.setIfInBounds_toArray, List.set_cons_zero, List.set_cons_succ]
      refine wpAnyH_norm (l2 := #[true, true, true, true, true, true, true, true, false, false, false, false, false]) (f2 := 5) (by kernel_rfl) (by kernel_rfl) ?_
      refine wpAnyH_take (i := 8) (oi := _) (v := ?_) rfl (by kernel_rfl) (by kernel_rfl) (by kernel_rfl) (fun _ _ _ h => h) (Or.inl ⟨by rfl, ?_⟩) (by assumption) ?_
      rotate_left
      · (intro w hSw; (try dsimp only at hSw); go_simp; try with_reducible rfl)
      simp only [List.getElem_toArray, List.getElem_cons_succ, List.getElem_cons_zero, Act.put, List.setIfInBounds_toArray, List.set_cons_zero, List.set_cons_succ]
      refine wpAnyH_norm (l2 := #[true, true, true, true, true, true, true, true, true, false, false, false, false]) (f2 := 4) (by kernel_rfl) (by kernel_rfl) ?_
      refine wpAnyH_take (i := 9) (oi := _) (v := ?_) rfl (by kernel_rfl) (by kernel_rfl) (by kernel_rfl) (fun _ _ _ h => h) (Or.inl ⟨by rfl, ?_⟩) (by assumption) ?_
      rotate_left
      · (intro w hSw; (try dsimp only at hSw); go_simp; try with_reducible rfl)
      simp only [List.getElem_toArray, List.getElem_cons_succ, List.getElem_cons_zero, Act.put, List.setIfInBounds_toArray, List.set_cons_zero, List.set_cons_succ]
      refine wpAnyH_norm (l2 := #[true, true, true, true, true, true, true, true, true, true, false, false, false]) (f2 := 3) (by kernel_rfl) (by kernel_rfl) ?_
      refine wpAnyH_take (i := 10) (oi := _) (v := ?_) rfl (by kernel_rfl) (by kernel_rfl) (by kernel_rfl) (fun _ _ _ h => h) (Or.inl ⟨by rfl, ?_⟩) (by assumption) ?_
      rotate_left
      · (intro w hSw; (try dsimp only at hSw); go_simp; try with_reducible rfl)
      simp only [List.getElem_toArray, List.getElem_cons_succ, List.getElem_cons_zero, Act.put, List.setIfInBounds_toArray, List.set_cons_zero, List.set_cons_succ]
      refine wpAnyH_norm (l2 := #[true, true, true, true, true, true, true, true, true, true, true, false, false]) (f2 := 2) (by kernel_rfl) (by kernel_rfl) ?_
      refine wpAnyH_take (i := 11) (oi := _) (v := ?_) rfl (by kernel_rfl) (by kernel_rfl) (by kernel_rfl) (fun _ _ _ h => h) (Or.inl ⟨by rfl, ?_⟩) (by assumption) ?_
      rotate_left
      · (intro w hSw; (try dsimp only at hSw); go_simp; try with_reducible rfl)
      simp only [List.getElem_toArray, List.getElem_cons_succ, List.getElem_cons_zero, Act.put, List.setIfInBounds_toArray, List.set_cons_zero, List.set_cons_succ]
      refine wpAnyH_norm (l2 := #[true, true, true, true, true, true, true, true, true, true, true, true, false]) (f2 := 1) (by kernel_rfl) (by kernel_rfl) ?_
      refine wpAnyH_take (i := 12) (oi := _) (v := ?_) rfl (by kernel_rfl) (by kernel_rfl) (by kernel_rfl) (fun _ _ _ h => h) (Or.inl ⟨by rfl, ?_⟩) (by assumption) ?_
      rotate_left
      · (intro w hSw; (try dsimp only at hSw); go_simp; try with_reducible rfl)
      simp only [List.getElem_toArray, List.getElem_cons_succ, List.getElem_cons_zero, Act.put, List.setIfInBounds_toArray, List.set_cons_zero, List.set_cons_succ]
      refine wpAnyH_norm (l2 := #[true, true, true, true, true, true, true, true, true, true, true, true, true]) (f2 := 0) (by kernel_rfl) (by kernel_rfl) ?_
      refine wpAnyH_done (by kernel_rfl) ?_ _
      go_wp2
      exact bodyPost_ret (v := .tuple #[]) (by simp [results, Try.results34, go_sem]) rfl ⟨rfl, below_call HBw.out HB3.out⟩
def tellV (B : Bv) (kd b t : Int) (c : Cp) (ls : List Lk) : Bv := if hasF c = true ∧ B.told t (frm c) = none then { B with told := up2 B.told t (frm c) (some (⟨B.n, kd, b, t, c⟩ :: ls)), known := up1 B.known t (B.known t ++ [c]) } else B
theorem tell_keep (m : Bm) (B : Bv) (s0 kd b tt : Int) (c : Cp) (ah : Option Addr) (ls : List Lk) (w : World) (h : Bk w m B) (hc : c.far) (hp : I64 tt) (hb : I64 b) (hkd : I64 kd) (hn : I64 B.n) (ha : Tls w ah ls) (hls : ∀ x ∈ ls, lkOk x) (hl : (B.known tt).length + 1 ≤ 1000000000) :
    Calls Try.prog 34 #[.pointer (some ⟨m.g, 0, none⟩), lkV s0 kd b tt c, .pointer ah] w fun e w' => e = .returned (.tuple #[]) ∧ ∃ m', Bk w' m' (tellV B kd b tt c ls) ∧ Tr w w' m m' ∧ m'.I = m.I := by
  cases hF : hasF c with
  | false =>
    obtain ⟨r, hr⟩ := Gt.some_of (G := m.T) tt (fmV (fmR c))
    refine (tell_stop m s0 kd b tt c.o c.h c.l ah r w h.bw hc hp hr (by have : hasF ⟨c.o, c.h, c.l⟩ = false := hF; rw [this]; simp)).mono ?_
    rintro e w' ⟨rfl, hbe⟩
    refine ⟨rfl, m, ?_, (Tr.refl w m).later hbe, rfl⟩
    unfold tellV
    rw [if_neg (by rw [hF]; simp)]
    exact h.later hbe
  | true =>
    have efm : fmR c = frm c := by unfold fmR; rw [if_pos hF]
    rcases h.told.look tt (frm c) (fun j _ e => fmV_inj e) with ⟨hnone, hg⟩ | ⟨a, v, hsome, hRv, hg⟩
    · have hnone' := hnone
      refine (tell_gen m s0 kd b tt c.o c.h c.l ah w h.bw hc hF hp hg (fun j => j ∈ blG m.bt m.T) (fun j => j = m.bk ∨ ∃ k ∈ m.K, Blk k.s.a j)
        (fun m1 kt => ∃ L', m1 = { m with T := L' } ∧ (∀ g ∈ L', g.b ∈ m.T.map Im.b ∨ w.heap.size ≤ g.b) ∧ ∀ q x, In L' q x ↔ (q = tt ∧ x = (fmV (frm c), .pointer (some ⟨kt, 0, none⟩))) ∨ (In m.T q x ∧ ¬ (q = tt ∧ x.1 = fmV (frm c))))
        (fun w' kt => ∃ L' K', Bw w' { m with T := L', K := K' } ∧ (∀ q x, In L' q x ↔ (q = tt ∧ x = (fmV (frm c), .pointer (some ⟨kt, 0, none⟩))) ∨ (In m.T q x ∧ ¬ (q = tt ∧ x.1 = fmV (frm c)))) ∧ Vl K' (up1 B.known tt (B.known tt ++ [c])) ∧ (∀ x ∈ K', x ∈ m.K ∨ 0 < x.s.n) ∧ ∀ j, Owb { m with T := L', K := K' } j → Owb m j ∨ w.heap.size ≤ j) ?_ ?_ ?_ ?_).mono ?_
      · intro U kt hU
        refine (keepF_any m.bt m.T tt (frm c) (some ⟨kt, 0, none⟩) (frm_len _) (frm_sml _) U ((h.bw.later hU).told) hp).mono ?_
        rintro e w' ⟨rfl, G', k1, k2, k3, k4, _⟩
        obtain ⟨q1, q2⟩ := (h.bw.later hU).told_to k4 (fun j hj => hj) k1 k2
        exact ⟨rfl, _, q1, ⟨G', rfl, fun g hg => (k2 g hg).imp id (Nat.le_trans hU.size), k3⟩, rfl, rfl, k4⟩
      · exact fun j hj => h.bw.told.lt j hj
      · intro j hj
        rcases hj with rfl | ⟨k, hk, hj⟩
        · exact ⟨h.bw.lo _ (by simp [Bm.blks]), fun e => (bk_ne h.bw.dis).2.2.1 e.symm⟩
        · have := (h.bw.known.each k hk).1.blk j hj
          exact ⟨this.2, by omega⟩
      · rintro U m1 kt hU hB ⟨L', rfl, k2, k3⟩ hcl
        obtain ⟨v0, v7, w7, w8, l0, r7, r8, ⟨K', q1, q2, q3, q4⟩, b8, b7⟩ := hB.known_push (f := B.known) h.known hp c hc hl
        refine ⟨v0, v7, w7, w8, l0, r7, r8, ⟨L', K', q1, k3, q2, q4, fun j hj => ?_⟩, b8, b7⟩
        rcases q3 j hj with h1 | h1
        · rcases h1 with h1 | h1 | h1
          · rcases List.mem_append.1 h1 with h2 | h2
            · exact .inl (.inl (List.mem_append.2 (.inl h2)))
            · rcases List.mem_append.1 h2 with h2 | h2
              · exact (grow_mem k2 j h2).imp (fun h3 => .inl (List.mem_append.2 (.inr (List.mem_append.2 (.inl h3))))) id
              · exact .inl (.inl (List.mem_append.2 (.inr (List.mem_append.2 (.inr h2)))))
          · exact .inl (.inr (.inl h1))
          · exact .inl (.inr (.inr h1))
        · exact .inr (Nat.le_trans hU h1)
      · rintro e w' ⟨rfl, kt, hkt, ⟨L', K', q1, q2, q3, q5, q4⟩, hx, hty, hbt⟩
        have hbo : But (Owb m) w w' := hbt.mono (fun j hj => by
          rcases hj with hj | rfl | hj
          · exact .inl (List.mem_append.2 (.inr (List.mem_append.2 (.inl hj))))
          · exact .inl (by simp [Bm.blks])
          · exact .inr (.inr hj))
        refine ⟨rfl, { m with T := L', K := K' }, ?_, ⟨rfl, hbo, q4⟩, rfl⟩
        unfold tellV
        rw [if_pos ⟨hF, hnone⟩]
        have hty' : Tyd w' kt B.n kd b tt c ah := by rw [← h.n]; exact hty
        exact ⟨q1, h.n, h.live, h.laid.mono (fun v a hr => hr.but h.bw hbo (fun _ h => h)), (h.told.mono (fun v a hr => hr.but h.bw hbo (fun _ h => h))).put q2 (fun j _ e => fmV_inj e) ⟨frm_len _, frm_sml _⟩ ⟨kt, rfl, ⟨kt, ah, rfl, hty', Tls.but h.bw hbo (fun _ h => h) ha⟩, fun x hx => by
          rcases List.mem_cons.1 hx with rfl | hx
          · exact ⟨hc, hF, hp, hb, hn, hkd⟩
          · exact hls x hx⟩ (fun j e => fmV_inj e), h.lists, q3, fun k hk => (q5 k hk).elim (fun h1 => h.kne k h1) id, h.cnt⟩
    · rw [← efm] at hg
      refine (tell_stop m s0 kd b tt c.o c.h c.l ah (some v) w h.bw hc hp hg rfl).mono ?_
      rintro e w' ⟨rfl, hbe⟩
      refine ⟨rfl, m, ?_, (Tr.refl w m).later hbe, rfl⟩
      unfold tellV
      rw [if_neg (by rw [hsome]; simp)]
      exact h.later hbe
theorem tell_any (m : Bm) (B : Bv) (s0 kd b tt : Int) (c : Cp) (ah : Option Addr) (ls : List Lk) (w : World) (h : Bk w m B) (hc : c.far) (hp : I64 tt) (hb : I64 b) (hkd : I64 kd) (hn : I64 B.n) (ha : Tls w ah ls) (hls : ∀ x ∈ ls, lkOk x) (hl : (B.known tt).length + 1 ≤ 1000000000) :
    Calls Try.prog 34 #[.pointer (some ⟨m.g, 0, none⟩), lkV s0 kd b tt c, .pointer ah] w fun e w' => e = .returned (.tuple #[]) ∧ ∃ m', Bk w' m' (tellV B kd b tt c ls) ∧ Tr w w' m m' :=
  (tell_keep m B s0 kd b tt c ah ls w h hc hp hb hkd hn ha hls hl).mono (fun e w' ⟨h1, m', h2, h3, _⟩ => ⟨h1, m', h2, h3⟩)
end Go.Proofs.Yticgammbjcdobaa
