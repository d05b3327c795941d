import Derived.Test.YtciidjhadijhdaaRF
namespace Go.Proofs.Ytciidjhadijhdaa
open Go.RowKit Go.Shelf H
set_option linter.unusedVariables false

/-! ### Down -/
theorem fm_take_le {f : Int → List Int} (C : List Int) (i : Nat) : ((C.take i).flatMap f).length ≤ (C.flatMap f).length := by
  have : C.flatMap f = (C.take i).flatMap f ++ (C.drop i).flatMap f := by rw [← List.flatMap_append, List.take_append_drop]
  rw [this, List.length_append]
  omega
def DnRel (W w1 w2 : World) (n : Int) (C : List Int) (f : Int → List Int) (a2 : Option Addr) (c2 : Nat) (v t : Value) (wr : World) : Prop :=
  ∃ (i m : Nat) (a : Option Addr) (cap : Nat), i ≤ C.length ∧ t = .int .i64 (i : Int) ∧ v = .slice a m cap ∧ m = (n :: (C.take i).flatMap f).length ∧ Own wr W.heap.size 3 a m cap (ints (n :: (C.take i).flatMap f)) ∧ (∀ k, Blk a k → k < w1.heap.size ∨ w2.heap.size ≤ k) ∧ Own wr w1.heap.size 3 a2 C.length c2 (ints C) ∧ Below W.heap.size W wr ∧ w2.heap.size ≤ wr.heap.size
set_option maxRecDepth 100000 in
set_option maxHeartbeats 4000000 in
theorem rdown_any {r b mo : Nat} {X : List Tk} {l : Fo} {wh : Int → Int} {ev : Nat} (hok : Ok mo l) (ht : Tim l wh ev) : ∀ n ∈ nums l, ∀ W : World, Rf W r b mo X l wh ev →
    Calls Try.prog 73 #[.pointer (some ⟨r, 0, none⟩), .int .i64 n] W fun e w' => ∃ a cap, e = .returned (.slice a (G true l n).length cap) ∧ Own w' W.heap.size 3 a (G true l n).length cap (ints (G true l n)) ∧ Below W.heap.size W w' := by
  refine tree_ind hok (P := fun n => ∀ W : World, Rf W r b mo X l wh ev → Calls Try.prog 73 #[.pointer (some ⟨r, 0, none⟩), .int .i64 n] W fun e w' => ∃ a cap, e = .returned (.slice a (G true l n).length cap) ∧ Own w' W.heap.size 3 a (G true l n).length cap (ints (G true l n)) ∧ Below W.heap.size W w') (fun n hn ih W h => ?_)
  have hGe : G true l n = n :: (ch l n).flatMap (G true l) := by rw [G_eq hok hn]; rfl
  have hGl := G_len hok true n
  have hbig := h.big
  have HH := hid h
  obtain ⟨w1, hw1⟩ : ∃ w1, w1 = W.alloc (Obj.cells #[.int .i64 n] 3) := ⟨_, rfl⟩
  have hB1 : Below W.heap.size W w1 := by rw [hw1]; exact below1 _ _
  have hO1 : Own w1 W.heap.size 3 (some ⟨W.heap.size, 0, none⟩) 1 1 (ints [n]) := by rw [hw1]; exact Own.one_new W n
  have hlt1 : W.heap.size < w1.heap.size := by rw [hw1]; simp
  have hch := hid (rch_any (h.later hB1) hok ht n)
  have HIH := hid ih
  obtain ⟨L, hL⟩ : ∃ L, L = G true l n := ⟨_, rfl⟩
  rw [← hL]
  rw [hGe] at hGl
  rw [hGe] at hL
  have HL := hid hL
  have HFL := hid (fun i => fm_take_le (f := G true l) (ch l n) i)
  have hCl : (ch l n).length ≤ 256 := Nat.le_trans (Nat.le_trans (ch_len l n) hok.len) hbig
  rw [List.length_cons] at hGl
  clear h hGe ih hL
  generalize hC : ch l n = C at *
  generalize hf : G true l = f at *
  clear hC hf
  have HO1 := hid hO1
  have HB1 := hid hB1
  clear hO1 hB1
  go_enter Try.func73, Try.ntmps73
  go_upto_region 2 with fail
  rw [← hw1]
  clear hw1
  go_upto_region 4 with (first | (go_at_call 82; refine hch.out.mono ?_; rintro e w2 ⟨a2, c2, rfl, hO2, hB2⟩; have HO2 := hid hO2; have HB2 := hid hB2; clear hO2 hB2))
  go_loopw [5, 7] (DnRel W w1 w2 n C f a2 c2) (fun _ t _ => C.length - (intOf t).toNat)
  case atStart => exact ⟨0, 1, some ⟨W.heap.size, 0, none⟩, 1, Nat.zero_le _, rfl, rfl, rfl, HO1.out.later HB2.out, fun k hk => by obtain ⟨x, hx, rfl⟩ := hk; cases hx; exact .inl hlt1, HO2.out, below_call HB1.out HB2.out, Nat.le_refl _⟩
  case round =>
    obtain ⟨i, m, a, cap, hi, rfl, rfl, hm, hO, hap, hC2, hB, hsz⟩ := hrel
    have hs2 := HB2.out.size
    by_cases hlt : i < C.length
    · obtain ⟨ga, rfl⟩ := hC2.form (by omega)
      obtain ⟨_, e1, hL1⟩ := hC2.lies rfl (ints_get C i hlt)
      cases e1
      have y1 := hL1.1
      have hcm : C[i] ∈ C := List.getElem_mem hlt
      have hdn := HIH.out C[i] hcm wr (HH.out.later hB)
      have hts : C.take (i + 1) = C.take i ++ [C[i]] := take_step C i hlt
      have hll : m + (f C[i]).length = (n :: (C.take (i + 1)).flatMap f).length := by rw [hm, hts, List.flatMap_append]; simp; omega
      have hfl1 := HFL.out (i + 1)
      have hcons : (n :: (C.take (i + 1)).flatMap f) = (n :: (C.take i).flatMap f) ++ f C[i] := by rw [hts, List.flatMap_append]; simp
      have hb1 : (n :: (C.take (i + 1)).flatMap f).length ≤ 256 := by rw [List.length_cons]; omega
      have HAPP : Hid (∀ (w3 : World) (a3 : Option Addr) (c3 : Nat), Own w3 wr.heap.size 3 a3 (f C[i]).length c3 (ints (f C[i])) → Below wr.heap.size wr w3 → ∃ a' cap' w4, (Builtin.append_ #[49, 49] 49 #[.slice a m cap, .slice a3 (f C[i]).length c3]).run Try.prog w3 = .ok (.slice a' (m + (f C[i]).length) cap') w4 ∧ DnRel W w1 w2 n C f (some ⟨ga, 0, none⟩) c2 (.slice a' (m + (f C[i]).length) cap') (.int .i64 ((i + 1 : Nat) : Int)) w4) := by
        intro w3 a3 c3 hO3 hB3
        obtain ⟨a', cap', w4, hrun, hO4, hG4⟩ := append_ints (hO.later hB3) hO3.read (Nat.le_trans hB.size hB3.size) (by rw [hll]; omega)
        rw [← ints_append, ← hcons] at hO4
        refine ⟨a', cap', w4, hrun, i + 1, m + (f C[i]).length, a', cap', by omega, rfl, rfl, hll, hO4, fun k hk => ?_, (hC2.later hB3).but hG4.but (fun k hk hk2 => ?_), (below_call hB hB3).trans (hG4.below (hO.later hB3) (Nat.le_trans hB.size hB3.size)), Nat.le_trans hsz (Nat.le_trans hB3.size hG4.but.size)⟩
        · rcases hG4.on k hk with h1 | h1
          · exact hap k h1
          · exact .inr (Nat.le_trans hsz (Nat.le_trans hB3.size h1))
        · have h1 := hC2.blk k hk
          have h2 := HO2.out.lt k hk
          rcases hap k hk2 with h3 | h3 <;> omega
      generalize hcc : C[i] = cc at *
      have HDN := hid hdn
      clear hO hC2 hL1 hdn hts hcons hll hcc hap hB hm hb1 hfl1
      go_wp2_with (first | (go_at_call 73; refine HDN.out.mono ?_; rintro e w3 ⟨a3, c3, rfl, hO3, hB3⟩; obtain ⟨a', cap', w4, hrun, hfin⟩ := HAPP.out w3 a3 c3 hO3 hB3; have HRUN := hid hrun; have HFIN := hid hfin; clear hO3 hB3 hrun hfin) | (at_builtin; refine wpList_append_known rfl _ _ 49 rfl _ _ rfl rfl _ w4 HRUN.out ?_))
      refine ⟨?_, by simp [intOf]; omega⟩
      have := HFIN.out
      simpa using this
    · obtain rfl : i = C.length := by omega
      rw [List.take_length, ← HL.out] at hO hm
      subst hm
      have HO := hid hO
      have HB := hid hB
      clear hO hB hC2 hap
      go_wp2
      go_ret
      exact ⟨a, cap, rfl, HO.out, HB.out⟩
end Go.Proofs.Ytciidjhadijhdaa
