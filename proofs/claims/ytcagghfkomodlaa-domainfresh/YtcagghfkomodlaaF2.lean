import Derived.Test.YtcagghfkomodlaaF1
import Derived.Test.YtcagghfkomodlaaT1
namespace Go.Proofs.Ytcagghfkomodlaa
open Go.RowKit
set_option linter.unusedVariables false
set_option linter.unusedSimpArgs false

/-- The list and the other one, which stays empty. -/
structure Fs (w0 w : World) (g r : Nat) (pa : Option Addr) (ca : Nat) (K : List Cp) : Prop where
  dm : Dm w w0.heap.size g 32 pa ca K
  do_ : Dm w w0.heap.size r 32 none 0 []
  dj : Dj g pa r none
  bl : Below w0.heap.size w0 w
variable {w0 w w' : World} {g r : Nat} {pa : Option Addr} {ca : Nat} {K : List Cp}
theorem Fs.later (h : Fs w0 w g r pa ca K) (hb : Below w.heap.size w w') : Fs w0 w' g r pa ca K := ⟨h.dm.later hb, h.do_.later hb, h.dj, h.bl.trans (hb.mono h.bl.size)⟩
theorem Fs.wr {pa' : Option Addr} {ca' : Nat} {K' : List Cp} (h : Fs w0 w g r pa ca K) (hd : Dm w' w0.heap.size g 32 pa' ca' K') (hr : Wr w w' g pa pa') : Fs w0 w' g r pa' ca' K' :=
  ⟨hd, h.do_.keep h.dj hr, h.dj.left hr h.do_, hr.below h.dm h.bl⟩
theorem app_ints {base : Nat} {a : Option Addr} {n cap : Nat} {L : List Value} {b : Option Addr} {m c : Nat} {M : List Value} (h : Own w base 3 a n cap L) (k : Row w b m c M) (hb : base ≤ w.heap.size) (hr : (n + m) * 8 ≤ 140737488355328) :
    ∃ a' cap' w', (Builtin.append_ #[23, 23] 23 #[.slice a n cap, .slice b m c]).run Try.prog w = .ok (.slice a' (n + m) cap') w' ∧ Own w' base 3 a' (n + m) cap' (L ++ M) ∧ Gr a a' w w' :=
  append_gen 23 3 _ 8 Try.underlying23 info3 rfl h k hb hr (by omega)
theorem Own.form {base : Nat} {e : TypeId} {a : Option Addr} {n cap : Nat} {L : List Value} (h : Own w base e a n cap L) (hn : 0 < n) : ∃ g, a = some ⟨g, 0, none⟩ := by
  rcases h.row.2 with ⟨_, h1⟩ | ⟨g, c, cur, hv, _⟩
  · omega
  · simp only [Value.slice.injEq] at hv
    exact ⟨g, hv.1⟩
theorem ints_set (L : List Int) (j : Nat) (v : Int) : (ints L).set j (.int .i64 v) = ints (L.set j v) := by simp [ints, List.map_set]
theorem Own.set {base g n c j : Nat} {L : List Int} {v : Int} (h : Own w base 3 (some ⟨g, 0, none⟩) n c (ints L)) : Own (w.setCell ⟨g, j, none⟩ (.int .i64 v)) base 3 (some ⟨g, 0, none⟩) n c (ints (L.set j v)) :=
  ⟨by rw [← ints_set]; exact (h.row.stored j _).1, ints_one _⟩
theorem Own.empty (w : World) (e : TypeId) : Own (w.alloc (Obj.cells #[] e)) w.heap.size e (some ⟨w.heap.size, 0, none⟩) 0 0 [] :=
  ⟨⟨by simp, .inr ⟨w.heap.size, 0, #[], rfl, Nat.le_refl _, heap_alloc_new w _, Nat.le_refl _, Nat.zero_le _, by simp, by simp⟩⟩, fun _ h => (by cases h)⟩
/-- One number more. -/
theorem room_app {base : Nat} {a : Option Addr} {n cap : Nat} {L : List Int} (h : Own w base 3 a n cap (ints L)) (x : Int) (hb : base ≤ w.heap.size) (hn : n ≤ 64) :
    ∃ a' cap' w', (Builtin.append_ #[23, 23] 23 #[.slice a n cap, .slice (some ⟨w.heap.size, 0, none⟩) 1 1]).run Try.prog (w.alloc (Obj.cells #[.int .i64 x] 3)) = .ok (.slice a' (n + 1) cap') w' ∧ Own w' base 3 a' (n + 1) cap' (ints (L ++ [x])) ∧ Below base w w' := by
  obtain ⟨a', cap', w', hrun, hO, hG⟩ := app_ints (h.alloc (Obj.cells #[.int .i64 x] 3)) (Row.single w 3 (.int .i64 x) rfl) (by simp; omega) (by omega)
  refine ⟨a', cap', w', hrun, by rw [ints_append]; exact hO, ?_⟩
  exact ((below1 w _).mono hb).trans (Gr.below (h.alloc (Obj.cells #[.int .i64 x] 3)) hG (by simp; omega))
/-- A copy of the numbers, in new memory. -/
theorem ints_copy {a : Option Addr} {n c : Nat} {L : List Int} (h : Row w a n c (ints L)) (hn : n ≤ 64) :
    ∃ a' cap' w', (Builtin.append_ #[23, 23] 23 #[.slice (some ⟨w.heap.size, 0, none⟩) 0 0, .slice a n c]).run Try.prog (w.alloc (Obj.cells #[] 3)) = .ok (.slice a' n cap') w' ∧ Own w' w.heap.size 3 a' n cap' (ints L) ∧ Below w.heap.size w w' := by
  obtain ⟨a', cap', w', hrun, hO, hG⟩ := app_ints (Own.empty w 3) (h.alloc (Obj.cells #[] 3)) (by simp) (by omega)
  rw [Nat.zero_add] at hrun hO
  refine ⟨a', cap', w', hrun, by simpa using hO, ?_⟩
  exact (below1 w _).trans (Gr.below (Own.empty w 3) hG (by simp))
/-- A copy of the capabilities, in new memory. -/
theorem caps_copy {base : Nat} {a : Option Addr} {n c : Nat} {L : List Cp} (h : Ow w base 35 3 a n c (caps L)) (hn : n ≤ 64) :
    ∃ a' cap' w', (Builtin.append_ #[22, 22] 22 #[.slice (some ⟨w.heap.size, 0, none⟩) 0 0, .slice a n c]).run Try.prog (w.alloc (Obj.cells #[] 35)) = .ok (.slice a' n cap') w' ∧ Ow w' w.heap.size 35 3 a' n cap' (caps L) ∧ Below w.heap.size w w' := by
  obtain ⟨a', cap', w', hrun, hO, hG⟩ := append_k 22 35 _ 3 24 Try.underlying22 info35 rfl (by decide) (by decide) (Ow.empty w 35 3) ((h.later (below1 w (Obj.cells #[] 35))).cr (caps_one L)) (by simp) (by omega)
  rw [Nat.zero_add] at hrun hO
  rw [List.nil_append] at hO
  refine ⟨a', cap', w', hrun, hO, ?_⟩
  exact (below1 w _).trans (Gr.below' (Ow.empty w 35 3) hG (by simp))
/-- Three numbers more. -/
theorem room_three {base : Nat} {a : Option Addr} {n cap : Nat} {L : List Int} (h : Own w base 3 a n cap (ints L)) (hb : base ≤ w.heap.size) (hn : n ≤ 64) :
    ∃ a' cap' w', (Builtin.append_ #[23, 23] 23 #[.slice a n cap, .slice (some ⟨w.heap.size, 0, none⟩) 3 3]).run Try.prog (w.alloc (Obj.cells #[.int .i64 901, .int .i64 902, .int .i64 903] 3)) = .ok (.slice a' (n + 3) cap') w' ∧ Own w' base 3 a' (n + 3) cap' (ints (L ++ [901, 902, 903])) ∧ But (Blk a) w w' ∧ (∀ k, Blk a' k → Blk a k ∨ w.heap.size ≤ k) ∧ n + 3 ≤ cap' := by
  have hrow : Row (w.alloc (Obj.cells #[.int .i64 901, .int .i64 902, .int .i64 903] 3)) (some ⟨w.heap.size, 0, none⟩) 3 3 (ints [901, 902, 903]) :=
    Row.at (L := ints [901, 902, 903]) rfl (Nat.le_refl _) (ints_one _) (fun i v hi => by
      have hl : i < 3 := (List.getElem?_eq_some_iff.1 hi).1
      rcases (show i = 0 ∨ i = 1 ∨ i = 2 by omega) with rfl | rfl | rfl
      · simp [ints] at hi; subst hi; simp [go_sem]
      · simp [ints] at hi; subst hi; simp [go_sem]
      · simp [ints] at hi; subst hi; simp [go_sem])
  obtain ⟨a', cap', w', hrun, hO, hG⟩ := app_ints (h.alloc _) hrow (by simp; omega) (by omega)
  refine ⟨a', cap', w', hrun, by rw [ints_append]; exact hO, (hG.pre (below1 _ _)).but, (hG.pre (below1 _ _)).on, hO.read.cap_⟩
/-- Four lists, made one behind the other, are marked. -/
theorem marked4 {a0 a1 a2 a3 : Option Addr} {n0 n1 n2 n3 c0 c1 c2 c3 b0 b1 b2 b3 : Nat} {K0 K1 K2 K3 : List Cp} {r0 r1 r2 r3 r4 : Nat}
    (h0 : Ow w b0 35 3 a0 n0 c0 (caps K0)) (h1 : Ow w b1 35 3 a1 n1 c1 (caps K1)) (h2 : Ow w b2 35 3 a2 n2 c2 (caps K2)) (h3 : Ow w b3 35 3 a3 n3 c3 (caps K3)) (l0 : K0.length = n0) (l1 : K1.length = n1) (l2 : K2.length = n2) (l3 : K3.length = n3)
    (k0 : ∀ j, Blk a0 j → r0 ≤ j ∧ j < r1) (k1 : ∀ j, Blk a1 j → r1 ≤ j ∧ j < r2) (k2 : ∀ j, Blk a2 j → r2 ≤ j ∧ j < r3) (k3 : ∀ j, Blk a3 j → r3 ≤ j ∧ j < r4) (hr : r0 ≤ r1 ∧ r1 ≤ r2 ∧ r2 ≤ r3 ∧ r3 ≤ r4 ∧ r4 ≤ w.heap.size) (hs : n0 ≤ 64 ∧ n1 ≤ 64 ∧ n2 ≤ 64 ∧ n3 ≤ 64) :
    Calls Try.prog 16 #[.slice (some ⟨w.heap.size, 0, none⟩) 4 4] (w.alloc (Obj.cells #[.slice a0 n0 c0, .slice a1 n1 c1, .slice a2 n2 c2, .slice a3 n3 c3] 22)) fun e w' => e = .returned (.bool true) ∧ But (fun k => r0 ≤ k ∧ k < r4) (w.alloc (Obj.cells #[.slice a0 n0 c0, .slice a1 n1 c1, .slice a2 n2 c2, .slice a3 n3 c3] 22)) w' := by
  obtain ⟨q, hq0, hq1, hq2, hq3⟩ : ∃ q : Nat → Option Addr, q 0 = a0 ∧ q 1 = a1 ∧ q 2 = a2 ∧ q 3 = a3 := ⟨fun k => match k with | 0 => a0 | 1 => a1 | 2 => a2 | _ => a3, rfl, rfl, rfl, rfl⟩
  obtain ⟨cp, hc0, hc1, hc2, hc3⟩ : ∃ q : Nat → Nat, q 0 = c0 ∧ q 1 = c1 ∧ q 2 = c2 ∧ q 3 = c3 := ⟨fun k => match k with | 0 => c0 | 1 => c1 | 2 => c2 | _ => c3, rfl, rfl, rfl, rfl⟩
  obtain ⟨ln, hl0, hl1, hl2, hl3, hls⟩ : ∃ q : Nat → Nat, q 0 = n0 ∧ q 1 = n1 ∧ q 2 = n2 ∧ q 3 = n3 ∧ ∀ k, q k ≤ 64 := ⟨fun k => match k with | 0 => n0 | 1 => n1 | 2 => n2 | _ => n3, rfl, rfl, rfl, rfl, fun k => by
    match k with
    | 0 => exact hs.1
    | 1 => exact hs.2.1
    | 2 => exact hs.2.2.1
    | _ + 3 => exact hs.2.2.2⟩
  obtain ⟨K, hK0, hK1, hK2, hK3⟩ : ∃ q : Nat → List Cp, q 0 = K0 ∧ q 1 = K1 ∧ q 2 = K2 ∧ q 3 = K3 := ⟨fun k => match k with | 0 => K0 | 1 => K1 | 2 => K2 | _ => K3, rfl, rfl, rfl, rfl⟩
  obtain ⟨rr, e0, e1, e2, e3, e4⟩ : ∃ q : Nat → Nat, q 0 = r0 ∧ q 1 = r1 ∧ q 2 = r2 ∧ q 3 = r3 ∧ q 4 = r4 := ⟨fun k => match k with | 0 => r0 | 1 => r1 | 2 => r2 | 3 => r3 | _ => r4, rfl, rfl, rfl, rfl, rfl⟩
  have four : ∀ (p : Nat → Prop), p 0 → p 1 → p 2 → p 3 → ∀ k, k < 4 → p k := fun p p0 p1 p2 p3 k hk => by
    rcases (show k = 0 ∨ k = 1 ∨ k = 2 ∨ k = 3 by omega) with rfl | rfl | rfl | rfl
    · exact p0
    · exact p1
    · exact p2
    · exact p3
  have hB := below1 w (Obj.cells #[.slice a0 n0 c0, .slice a1 n1 c1, .slice a2 n2 c2, .slice a3 n3 c3] 22)
  have hblk : ∀ k, k < 4 → ∀ j, Blk (q k) j → rr k ≤ j ∧ j < rr (k + 1) := four _ (by rw [hq0, e0, e1]; exact k0) (by rw [hq1, e1, e2]; exact k1) (by rw [hq2, e2, e3]; exact k2) (by rw [hq3, e3, e4]; exact k3)
  have hmono : ∀ a b, a < b → b ≤ 4 → rr a ≤ rr b := fun a b hab hb => by
    have st : ∀ k, k < 4 → rr k ≤ rr (k + 1) := four _ (by rw [e0, e1]; exact hr.1) (by rw [e1, e2]; exact hr.2.1) (by rw [e2, e3]; exact hr.2.2.1) (by rw [e3, e4]; exact hr.2.2.2.1)
    induction b with
    | zero => omega
    | succ b ih =>
      rcases Nat.lt_or_ge a b with h | h
      · exact Nat.le_trans (ih h (by omega)) (st b (by omega))
      · obtain rfl : a = b := by omega
        exact st a (by omega)
  have hM : Mk (w.alloc (Obj.cells #[.slice a0 n0 c0, .slice a1 n1 c1, .slice a2 n2 c2, .slice a3 n3 c3] 22)) w.heap.size q cp ln K := by
    refine ⟨four _ (by rw [hq0, hl0, hc0]; simp [go_sem]) (by rw [hq1, hl1, hc1]; simp [go_sem]) (by rw [hq2, hl2, hc2]; simp [go_sem]) (by rw [hq3, hl3, hc3]; simp [go_sem]),
      four _ (by rw [hq0, hl0, hc0, hK0]; exact (h0.later hB).mono (Nat.zero_le _)) (by rw [hq1, hl1, hc1, hK1]; exact (h1.later hB).mono (Nat.zero_le _)) (by rw [hq2, hl2, hc2, hK2]; exact (h2.later hB).mono (Nat.zero_le _)) (by rw [hq3, hl3, hc3, hK3]; exact (h3.later hB).mono (Nat.zero_le _)),
      four _ (by rw [hK0, hl0]; exact l0) (by rw [hK1, hl1]; exact l1) (by rw [hK2, hl2]; exact l2) (by rw [hK3, hl3]; exact l3), fun a b j ha hb hne h1 h2 => ?_, fun k hk e => ?_, fun k => by have := hls k; omega⟩
    · have p1 := hblk a ha j h1
      have p2 := hblk b hb j h2
      rcases Nat.lt_or_ge a b with h | h
      · rcases Nat.lt_or_ge (a + 1) b with h' | h'
        · have := hmono (a + 1) b h' (by omega); omega
        · obtain rfl : b = a + 1 := by omega
          omega
      · rcases Nat.lt_or_ge (b + 1) a with h' | h'
        · have := hmono (b + 1) a h' (by omega); omega
        · obtain rfl : a = b + 1 := by omega
          omega
    · have p1 := hblk k hk _ e
      have p2 : rr (k + 1) ≤ rr 4 := by
        rcases Nat.lt_or_ge (k + 1) 4 with h | h
        · exact hmono _ _ h (Nat.le_refl _)
        · obtain rfl : k = 3 := by omega
          exact Nat.le_refl _
      rw [e4] at p2
      omega
  refine (mark_any 4 hM).mono ?_
  rintro e w' ⟨rfl, hb⟩
  refine ⟨rfl, hb.mono (fun j hj => ?_)⟩
  obtain ⟨k, hk, hj⟩ := hj
  have p1 := hblk k hk j hj
  have p2 : rr (k + 1) ≤ rr 4 := by
    rcases Nat.lt_or_ge (k + 1) 4 with h | h
    · exact hmono _ _ h (Nat.le_refl _)
    · obtain rfl : k = 3 := by omega
      exact Nat.le_refl _
  have p3 : rr 0 ≤ rr k := by
    rcases Nat.lt_or_ge 0 k with h | h
    · exact hmono _ _ h (by omega)
    · obtain rfl : k = 0 := by omega
      exact Nat.le_refl _
  rw [e4] at p2
  rw [e0] at p3
  omega
end Go.Proofs.Ytcagghfkomodlaa
