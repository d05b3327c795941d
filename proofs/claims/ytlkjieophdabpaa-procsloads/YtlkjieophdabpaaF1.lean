import Derived.Test.YtlkjieophdabpaaC6
namespace Go.Proofs.Ytlkjieophdabpaa
open Go.RowKit
set_option linter.unusedVariables false
set_option linter.unusedSimpArgs false

theorem Gro.row {w : World} {base : Nat} {a : Option Addr} {n cap : Nat} {L : List Value} (h : Gro w base a n cap L) : Row w a n cap L := by
  rcases h with h | ⟨_, _, _, h⟩
  · exact h.read
  · exact h
theorem Gro.but {S : Nat → Prop} {w w' : World} {base : Nat} {a : Option Addr} {n cap : Nat} {L : List Value} (hb : But S w w') (h : Gro w base a n cap L) (hn : ∀ k, Blk a k → ¬ S k) : Gro w' base a n cap L := by
  rcases h with h | ⟨h1, p, h2, h⟩
  · exact .inl (h.but hb hn)
  · exact .inr ⟨h1, p, h2, h.but hb hn⟩
theorem blk_at {b o k : Nat} (h : Blk (some ⟨b, o, none⟩) k) : k = b := by
  obtain ⟨x, hx, rfl⟩ := h
  cases hx
  rfl
theorem Row.set {w : World} {g n c j : Nat} {L : List Int} {v : Int} (h : Row w (some ⟨g, 0, none⟩) n c (ints L)) (hj : j < n) : Row (w.setCell ⟨g, j, none⟩ (.int .i64 v)) (some ⟨g, 0, none⟩) n c (ints (L.set j v)) := by
  have hlen : L.length = n := by have := h.len; rwa [ints_length] at this
  refine Row.at (by rw [ints_length, List.length_set, hlen]) h.cap_ (ints_one _) (fun i u hu => ?_)
  have hi : i < n := by have := (List.getElem?_eq_some_iff.1 hu).1; rwa [ints_length, List.length_set, hlen] at this
  rw [Nat.zero_add]
  rw [ints_get _ i (by rw [List.length_set]; omega)] at hu
  have hc := h.cells _ rfl i _ (ints_get L i (by omega))
  rw [addr_add0] at hc
  by_cases e : j = i
  · subst e
    rw [List.getElem_set_self] at hu
    rw [World.cell?_setCell_same _ _ _ hc]
    exact hu
  · rw [List.getElem_set_ne e] at hu
    rw [World.cell?_setCell_other _ _ _ _ (fun e2 => e (congrArg Addr.off e2)), hc]
    exact hu
theorem Gro.set {w : World} {base g n c j : Nat} {L : List Int} {v : Int} (h : Gro w base (some ⟨g, 0, none⟩) n c (ints L)) (hj : j < n) : Gro (w.setCell ⟨g, j, none⟩ (.int .i64 v)) base (some ⟨g, 0, none⟩) n c (ints (L.set j v)) := by
  rcases h with h | ⟨h1, p, h2, h⟩
  · exact .inl ⟨by rw [← ints_set]; exact (h.row.stored j _).1, ints_one _⟩
  · exact .inr ⟨h1, p, h2, h.set hj⟩
theorem append_keep {w : World} {base : Nat} {a : Option Addr} {n cap : Nat} {L : List Int} (x : Int) (h : Gro w base a n cap (ints L)) (hb : base ≤ w.heap.size) (hr : (n + 1) * 8 ≤ 140737488355328) :
    ∃ a' cap' w', (Builtin.append_ #[22, 22] 22 #[.slice a n cap, .slice (some ⟨w.heap.size, 0, none⟩) 1 1]).run Try.prog (w.alloc (Obj.cells #[.int .i64 x] 3)) = .ok (.slice a' (n + 1) cap') w' ∧ Own w' base 3 a' (n + 1) cap' (ints (L ++ [x])) ∧ Gr a a' w w' ∧
      ((a' = a ∧ cap' = cap) ∨ (Below w.heap.size w w' ∧ ∀ k, Blk a' k → w.heap.size ≤ k)) := by
  have hfull : ∀ p, a = some p → n = cap → Row w a n cap (ints L) → ∃ a' cap' w', (Builtin.append_ #[22, 22] 22 #[.slice a n cap, .slice (some ⟨w.heap.size, 0, none⟩) 1 1]).run Try.prog (w.alloc (Obj.cells #[.int .i64 x] 3)) = .ok (.slice a' (n + 1) cap') w' ∧ Own w' base 3 a' (n + 1) cap' (ints (L ++ [x])) ∧ Gr a a' w w' ∧
      ((a' = a ∧ cap' = cap) ∨ (Below w.heap.size w w' ∧ ∀ k, Blk a' k → w.heap.size ≤ k)) := by
    rintro p rfl rfl h
    obtain ⟨g', cap', w', hrun, hO, hB⟩ := append_full_gen 22 3 _ 8 Try.underlying22 info3 rfl (h.alloc (Obj.cells #[.int .i64 x] 3)) (Row.single w 3 (.int .i64 x) rfl) (by omega) hr (by omega)
    have hge : ∀ k, Blk (some ⟨g', 0, none⟩) k → w.heap.size ≤ k := fun k hk => by
      have := hO.blk k hk
      simp at this
      omega
    exact ⟨_, cap', w', hrun, by rw [ints_append]; exact hO.mono (by simp; omega), ⟨But.of (below_call (below1 _ _) hB), fun k hk => .inr (hge k hk)⟩, .inr ⟨below_call (below1 _ _) hB, hge⟩⟩
  rcases h with h | ⟨h1, p, h2, h⟩
  · cases a with
    | none =>
      obtain ⟨a', cap', w', hrun, hO, hG⟩ := append_ints (h.alloc (Obj.cells #[.int .i64 x] 3)) (Row.single w 3 (.int .i64 x) rfl) (by simp; omega) hr
      have hG2 := hG.pre (below1 w (Obj.cells #[.int .i64 x] 3))
      refine ⟨a', cap', w', hrun, by rw [ints_append]; exact hO, hG2, .inr ⟨⟨hG2.but.os, hG2.but.tape, hG2.but.output, hG2.but.size, fun k hk => hG2.but.block k hk (fun e => by obtain ⟨_, e, _⟩ := e; cases e)⟩, fun k hk => ?_⟩⟩
      rcases hG2.on k hk with e | e
      · obtain ⟨_, e, _⟩ := e; cases e
      · exact e
    | some p =>
      obtain ⟨g, rfl⟩ : ∃ g, p = ⟨g, 0, none⟩ := by
        rcases h.row.2 with ⟨h1, _⟩ | ⟨gb, c, cur, hv, _⟩
        · simp at h1
        · simp only [Value.slice.injEq, Option.some.injEq] at hv
          exact ⟨gb, hv.1⟩
      have hc := h.read.cap_
      by_cases hnc : n = cap
      · exact hfull _ rfl hnc h.read
      · obtain ⟨i, hi, hz0, hz1, hz2⟩ := info_parts info3
        have ha := h.alloc (Obj.cells #[.int .i64 x] 3)
        obtain ⟨w', hrun, hO, hg⟩ := run_append_fits (P := Try.prog) (w.alloc (Obj.cells #[.int .i64 x] 3)) base 22 22 3 i 1 Try.underlying22 hi hz1 g n cap _ ha.row ⟨w.heap.size, 0, none⟩ 1 1 [.int .i64 x] rfl ((Row.single w 3 (.int .i64 x) rfl).cells _ rfl) (by simp [Value.oneCell']) (by omega)
        have hB : But (Blk (some ⟨g, 0, none⟩)) (w.alloc (Obj.cells #[.int .i64 x] 3)) w' := ⟨hg.os, hg.tape, hg.output, hg.size, fun k hk hn => hg.block k hk (fun e => hn ⟨_, rfl, by simpa using e.symm⟩)⟩
        exact ⟨_, cap, w', hrun, ⟨by rw [ints_append]; exact hO, ints_one _⟩, ⟨(But.of (below1 _ _)).trans hB, fun k hk => .inl hk⟩, .inl ⟨rfl, rfl⟩⟩
  · exact hfull p h2 h1 h
def GrownKeep (w : World) (base : Nat) (a0 : Option Addr) (n cap0 : Nat) (L : List Int) (x : Int) (l t : Value) (w' : World) : Prop :=
  ∃ (i : Nat) (a : Option Addr) (cap : Nat), i ≤ 80 ∧ t = .int .i64 (i : Int) ∧ l = .slice a (n + i) cap ∧ Gro w' base a (n + i) cap (ints (L ++ List.replicate i x)) ∧ (0 < i → Own w' base 3 a (n + i) cap (ints (L ++ List.replicate i x))) ∧ Gr a0 a w w' ∧ Row w' a0 n cap0 (ints L) ∧
    ((a = a0 ∧ cap = cap0) ∨ ∀ k, Blk a k → w.heap.size ≤ k)
set_option maxRecDepth 100000 in
set_option maxHeartbeats 1000000 in
theorem grown_keep (base : Nat) (a : Option Addr) (n cap : Nat) (L : List Int) (x : Int) (w : World) (h : Gro w base a n cap (ints L)) (hl : ∀ k, Blk a k → k < w.heap.size) (hb : base ≤ w.heap.size) (hr : (n + 80) * 8 ≤ 140737488355328) :
    Calls Try.prog 28 #[.slice a n cap, .int .i64 x] w fun e w' => ∃ a' cap', e = .returned (.slice a' (n + 80) cap') ∧ Own w' base 3 a' (n + 80) cap' (ints (L ++ List.replicate 80 x)) ∧ Gr a a' w w' ∧ Row w' a n cap (ints L) := by
  have H0 : Hid (GrownKeep w base a n cap L x (.slice a n cap) (.int .i64 0) w) := ⟨0, a, cap, by omega, rfl, rfl, by simpa using h, fun h => by omega, Gr.refl _ _, h.row, .inl ⟨rfl, rfl⟩⟩
  have HR := hid hr
  have HLT := hid hl
  clear h hr hl
  go_enter Try.func28, Try.ntmps28
  go_wp2
  go_loopw [0, 5] (GrownKeep w base a n cap L x) (fun _ t _ => 80 - (intOf t).toNat)
  case atStart => exact H0.out
  case round =>
    clear H0
    obtain ⟨i, a', cap', hi, rfl, rfl, hG, hO, hg, hK, hw⟩ := hrel
    by_cases hlt : i < 80
    · have hd : decide ((i : Int) < 80) = true := by simp; omega
      obtain ⟨a2, c2, w2, hrun, hO2, hG2, hw2⟩ := append_keep x hG (Nat.le_trans hb hg.but.size) (by have := HR.out; omega)
      have HRUN := hid hrun
      have HO2 : Hid (Own w2 base 3 a2 (n + (i + 1)) c2 (ints (L ++ List.replicate (i + 1) x))) := hid (by rw [List.replicate_succ', ← List.append_assoc]; exact hO2)
      have HG2 := hid (hg.trans hG2)
      have hsz := hg.but.size
      have hLl : L.length = n := by have := hK.len; rwa [ints_length] at this
      have HK2 : Hid (Row w2 a n cap (ints L) ∧ ((a2 = a ∧ c2 = cap) ∨ ∀ k, Blk a2 k → w.heap.size ≤ k)) := hid (by
        rcases hw2 with ⟨rfl, rfl⟩ | ⟨hB2, hge⟩
        · rcases hw with ⟨rfl, rfl⟩ | hw
          · refine ⟨?_, .inl ⟨rfl, rfl⟩⟩
            have := HO2.out.read.sub (m := n) (c := c2) (by omega) hK.cap_ (fun e => (hK.none_ e).2)
            rw [ints_append, List.take_left' (by rw [ints_length]; exact hLl)] at this
            exact this
          · exact ⟨hK.but hG2.but (fun k hk e => by have h1 := HLT.out k hk; have h2 := hw k e; omega), .inr hw⟩
        · exact ⟨hK.later hB2, .inr (fun k hk => Nat.le_trans hsz (hge k hk))⟩)
      clear hrun hO2 hG2 hg hG hO hK hw hw2 hLl hsz
      go_wp2_with (first | (at_builtin; refine wpList_append_known rfl _ _ 22 rfl _ _ rfl rfl _ w2 HRUN.out ?_))
      go_roundw
      case rel => exact ⟨i + 1, a2, c2, by omega, by go_num, rfl, .inl HO2.out, fun _ => HO2.out, HG2.out, HK2.out.1, HK2.out.2⟩
      case measure => simp [intOf]; omega
    · obtain rfl : i = 80 := by omega
      have HO := hid (hO (by omega))
      have HG := hid hg
      have HK := hid hK
      clear hO hG hg hK hw
      go_wp2
      go_ret
      exact ⟨a', cap', rfl, HO.out, HG.out, HK.out⟩
end Go.Proofs.Ytlkjieophdabpaa
