import Derived.Test.YticgammbjcdobaaNR
namespace Go.Proofs.Yticgammbjcdobaa
open Go.RowKit
set_option linter.unusedVariables false
set_option linter.unusedSimpArgs false
theorem bi_ne {m : Bm} (hd : m.blks.Nodup) : (∀ i ∈ m.bl :: m.L.map Im.b, i ≠ m.bi) ∧ (∀ i ∈ m.bt :: m.T.map Im.b, i ≠ m.bi) ∧ m.g ≠ m.bi ∧ m.bk ≠ m.bi ∧ ∀ i ∈ m.ba :: m.A.map Im.b, i ≠ m.bi := by
  have h1 := List.nodup_append.1 hd
  have h2 := List.nodup_append.1 h1.2.1
  have h3 := List.nodup_cons.1 h2.2.1
  have h4 := List.nodup_cons.1 h3.2
  refine ⟨fun i hi e => h1.2.2 i hi m.bi (by simp) e, fun i hi e => h2.2.2 i hi m.bi (by simp) e, fun e => h3.1 (by rw [e]; simp), fun e => h4.1 (by rw [← e]; simp), fun i hi e => h4.1 (by rw [← e]; exact List.mem_cons_of_mem _ hi)⟩
theorem Bw.lists_new {w : World} {m : Bm} (h : Bw w m) {p : Int} (hp : I64 p) (hn : ∀ k ∈ m.I, k.p ≠ p) (c : Cp) :
    (Instr.lookup 61 (.map (some m.bi)) (.int .i64 p) false).run Try.prog w = .ok (.slice none 0 0) w ∧
    ∃ a' c' w7 w8, (Builtin.append_ #[26, 26] 26 #[.slice none 0 0, .slice (some ⟨w.heap.size, 0, none⟩) 1 1]).run Try.prog (w.alloc (Obj.cells #[.int .i64 c.o, .int .u64 (c.h : Int), .int .u64 (c.l : Int)] 31)) = .ok (.slice a' 1 c') w7 ∧
      (Instr.mapUpdate 61 (.map (some m.bi)) (.int .i64 p) (.slice a' 1 c')).run Try.prog w7 = .ok () w8 ∧ Bw w8 { m with I := m.I ++ [⟨p, ⟨a', 1, c'⟩, [c]⟩] } ∧ But (· = m.bi) w w8 ∧ Below w.heap.size w w7 ∧ ∀ j, Blk a' j → w.heap.size ≤ j := by
  have hmk : ∀ x ∈ m.I.map (fun k => (Value.int .i64 k.p, Value.slice k.s.a k.s.n k.s.c)), x.1 ≠ Value.int .i64 p := fun x hx => by
    obtain ⟨k, hk, rfl⟩ := List.mem_map.1 hx
    intro e
    simp at e
    exact hn k hk e
  have hgl : m.g < w.heap.size := h.lo m.g (by simp)
  refine ⟨h.lists.out.miss ikey Try.underlying61 (kint hp) hmk (zCaps w) false, ?_⟩
  obtain ⟨a', c', w7, r7, o7, b7, n7⟩ := ow_snoc 26 31 _ 3 24 Try.underlying26 infoC3 rfl (by omega) (w := w) (base := m.g + 1) (cs := [.int .i64 c.o, .int .u64 (c.h : Int), .int .u64 (c.l : Int)]) (Ow.nil w (m.g + 1) _ _) rfl (one3 _ _ _) (by omega) (by omega) (by omega)
  have hB7 : Below w.heap.size w w7 := But.below (Below.refl _ _) b7 (fun k hk => by obtain ⟨x, hx, _⟩ := hk; cases hx)
  have hw7 := h.later hB7
  obtain ⟨w8, r8, m8, b8, s8⟩ := hw7.lists.out.add ikey Try.underlying61 (kint hp) hmk (.slice a' 1 c')
  obtain ⟨n1, n2, n3, n4, n5⟩ := bi_ne h.dis
  have hnew : ∀ j, Blk a' j → w.heap.size ≤ j := fun j hj => by
    rcases n7 j hj with ⟨x, hx, _⟩ | h'
    · cases hx
    · exact h'
  have ho8 : Ow w8 (m.g + 1) 31 3 a' 1 c' (capsL [c]) := by
    have : Ow w7 (m.g + 1) 31 3 a' 1 c' (capsL [c]) := by simpa [capsL, encC] using o7
    exact this.but b8 (fun j hj e => hw7.cells this (by omega) j hj (by subst e; simp [Bm.blks]))
  have hk8 : ∀ k ∈ m.I, Ow w8 (m.g + 1) 31 3 k.s.a k.s.n k.s.c (capsL k.l) := fun k hk => (hw7.lists.each k hk).1.but b8 (fun j hj e => hw7.cells (hw7.lists.each k hk).1 (by omega) j hj (by subst e; simp [Bm.blks]))
  refine ⟨a', c', w7, w8, by simpa using r7, r8, ⟨hw7.bx.but b8 n3, hw7.live.but b8 n1, hw7.laid.but b8 n5, hw7.told.but b8 n2, ⟨by rw [List.map_append]; exact m8, fun k hk => ?_, ?_⟩, hw7.known.map hw7.lists.out b8 n4, h.dis, fun j hj => Nat.lt_of_lt_of_le (hw7.lo j hj) b8.size, fun y hy x hx j hj2 hj => ?_⟩, (But.of hB7).trans b8, hB7, hnew⟩
  · rcases List.mem_append.1 hk with hk | hk
    · exact ⟨hk8 k hk, (h.lists.each k hk).2⟩
    · rw [List.mem_singleton.1 hk]
      exact ⟨ho8, rfl⟩
  · show (m.I ++ [_]).Pairwise _
    rw [List.pairwise_append]
    refine ⟨h.lists.dis, List.pairwise_singleton _ _, fun x hx y hy j hj hj2 => ?_⟩
    rw [List.mem_singleton.1 hy] at hj2
    have h1 := ((h.lists.each x hx).1.blk j hj).2
    have h2 := hnew j hj2
    omega
  · rcases List.mem_append.1 hy with hy | hy
    · exact h.ap y hy x hx j hj2 hj
    · rw [List.mem_singleton.1 hy] at hj2
      have h1 := ((h.known.each x hx).1.blk j hj).2
      have h2 := hnew j hj2
      omega
/-- .. one more. -/
theorem Bw.lists_more {w : World} {m : Bm} (h : Bw w m) {K1 K2 : List Kn} {k0 : Kn} (hK : m.I = K1 ++ k0 :: K2) (hl : k0.s.n + 1 ≤ 100000) (c : Cp) :
    (Instr.lookup 61 (.map (some m.bi)) (.int .i64 k0.p) false).run Try.prog w = .ok (.slice k0.s.a k0.s.n k0.s.c) w ∧
    ∃ a' c' w7 w8, (Builtin.append_ #[26, 26] 26 #[.slice k0.s.a k0.s.n k0.s.c, .slice (some ⟨w.heap.size, 0, none⟩) 1 1]).run Try.prog (w.alloc (Obj.cells #[.int .i64 c.o, .int .u64 (c.h : Int), .int .u64 (c.l : Int)] 31)) = .ok (.slice a' (k0.s.n + 1) c') w7 ∧
      (Instr.mapUpdate 61 (.map (some m.bi)) (.int .i64 k0.p) (.slice a' (k0.s.n + 1) c')).run Try.prog w7 = .ok () w8 ∧ Bw w8 { m with I := K1 ++ ⟨k0.p, ⟨a', k0.s.n + 1, c'⟩, k0.l ++ [c]⟩ :: K2 } ∧ But (fun j => j = m.bi ∨ Blk k0.s.a j) w w8 ∧ But (Blk k0.s.a) w w7 ∧ ∀ j, Blk a' j → Blk k0.s.a j ∨ w.heap.size ≤ j := by
  have hk0 : k0 ∈ m.I := by rw [hK]; simp
  have hgl : m.g < w.heap.size := h.lo m.g (by simp)
  have hmem : (Value.int .i64 k0.p, Value.slice k0.s.a k0.s.n k0.s.c) ∈ m.I.map (fun k => (Value.int .i64 k.p, Value.slice k.s.a k.s.n k.s.c)) := List.mem_map.2 ⟨k0, hk0, rfl⟩
  refine ⟨h.lists.out.hit ikey Try.underlying61 hmem false, ?_⟩
  obtain ⟨ho0, hln⟩ := h.lists.each k0 hk0
  obtain ⟨a', c', w7, r7, o7, b7, n7⟩ := ow_snoc 26 31 _ 3 24 Try.underlying26 infoC3 rfl (by omega) (cs := [.int .i64 c.o, .int .u64 (c.h : Int), .int .u64 (c.l : Int)]) ho0 rfl (one3 _ _ _) (by omega) hl (by omega)
  have hc0 := h.cells ho0 (by omega)
  have hS : ∀ i ∈ m.blks, ¬ Blk k0.s.a i := fun i hi hb => hc0 i hb hi
  obtain ⟨n1, n2, n3, n4, n5⟩ := bi_ne h.dis
  have bx7 := h.bx.but b7 (hS _ (by simp [Bm.blks]))
  have live7 := h.live.but b7 (fun j hj => hS j (List.mem_append.2 (.inl hj)))
  have laid7 := h.laid.but b7 (fun j hj => hS j (List.mem_append.2 (.inr (List.mem_append.2 (.inr (rest_a hj))))))
  have told7 := h.told.but b7 (fun j hj => hS j (List.mem_append.2 (.inr (List.mem_append.2 (.inl hj)))))
  have kout7 := h.lists.out.but b7 (hS _ (by simp [Bm.blks]))
  have lout7 := h.known.out.but b7 (hS _ (by simp [Bm.blks]))
  have ho7 : Ow w7 (m.g + 1) 31 3 a' (k0.s.n + 1) c' (capsL (k0.l ++ [c])) := by simpa [capsL, encC] using o7
  have hI7 : ∀ x ∈ m.K, Ow w7 (m.g + 1) 31 3 x.s.a x.s.n x.s.c (capsL x.l) := fun x hx => (h.known.each x hx).1.but b7 (fun j hj hj2 => h.ap k0 hk0 x hx j hj2 hj)
  have hdis := h.lists.dis
  rw [hK, List.pairwise_append, List.pairwise_cons] at hdis
  have hK1 : ∀ x ∈ K1, ∀ j, Blk x.s.a j → ¬ Blk k0.s.a j := fun x hx j hj => hdis.2.2 x hx k0 List.mem_cons_self j hj
  have hK2 : ∀ x ∈ K2, ∀ j, Blk x.s.a j → ¬ Blk k0.s.a j := fun x hx j hj hj2 => hdis.2.1.1 x hx j hj2 hj
  have hin1 : ∀ x ∈ K1, x ∈ m.I := fun x hx => by rw [hK]; simp [hx]
  have hin2 : ∀ x ∈ K2, x ∈ m.I := fun x hx => by rw [hK]; simp [hx]
  have hR1 : ∀ x ∈ K1, Ow w7 (m.g + 1) 31 3 x.s.a x.s.n x.s.c (capsL x.l) := fun x hx => (h.lists.each x (hin1 x hx)).1.but b7 (fun j hj hj2 => hK1 x hx j hj hj2)
  have hR2 : ∀ x ∈ K2, Ow w7 (m.g + 1) 31 3 x.s.a x.s.n x.s.c (capsL x.l) := fun x hx => (h.lists.each x (hin2 x hx)).1.but b7 (fun j hj hj2 => hK2 x hx j hj hj2)
  have hmap : ∀ {a : Option Addr} {n cap : Nat} {L : List Value}, Ow w7 (m.g + 1) 31 3 a n cap L → ¬ Blk a m.bi := fun {a} {n} {cap} {L} ho => by
    obtain ⟨es, clk, h1, _⟩ := kout7.ex
    exact map_ne h1 ho
  obtain ⟨w8, r8, m8, b8, s8⟩ := kout7.set ikey Try.underlying61 hmem (.slice a' (k0.s.n + 1) c')
  have e8 : upE (m.I.map (fun k => (Value.int .i64 k.p, Value.slice k.s.a k.s.n k.s.c))) (.int .i64 k0.p) (.slice a' (k0.s.n + 1) c') = (K1 ++ (⟨k0.p, ⟨a', k0.s.n + 1, c'⟩, k0.l ++ [c]⟩ : Kn) :: K2).map (fun k => (Value.int .i64 k.p, Value.slice k.s.a k.s.n k.s.c)) := by
    have hnd := h.lists.out.nd
    rw [hK, List.map_append, List.map_cons] at hnd ⊢
    rw [upE_at hnd]
    simp
  rw [e8] at m8
  have to8 : ∀ {a : Option Addr} {n cap : Nat} {L : List Value}, Ow w7 (m.g + 1) 31 3 a n cap L → Ow w8 (m.g + 1) 31 3 a n cap L := fun ho => ho.but b8 (fun j hj e => hmap ho (by subst e; exact hj))
  have hnew : ∀ j, Blk a' j → Blk k0.s.a j ∨ w.heap.size ≤ j := n7
  have apart : ∀ x : Kn, (∀ j, Blk x.s.a j → j < w.heap.size) → (∀ j, Blk x.s.a j → ¬ Blk k0.s.a j) → ∀ j, Blk x.s.a j → ¬ Blk a' j := fun x h1 h2 j hj hj2 => by
    rcases hnew j hj2 with h3 | h3
    · exact h2 j hj h3
    · have := h1 j hj; omega
  refine ⟨a', c', w7, w8, r7, r8, ⟨bx7.but b8 n3, live7.but b8 n1, laid7.but b8 n5, told7.but b8 n2, ⟨m8, fun x hx => ?_, ?_⟩, ⟨lout7.but b8 n4, fun x hx => ⟨to8 (hI7 x hx), (h.known.each x hx).2⟩, h.known.dis⟩, h.dis, fun j hj => Nat.lt_of_lt_of_le (h.lo j hj) (Nat.le_trans b7.size b8.size), fun y hy x hx j hj2 hj => ?_⟩, (b7.mono (fun j hj => .inr hj)).trans (b8.mono (fun j hj => .inl hj)), b7, hnew⟩
  · rcases List.mem_append.1 hx with hx | hx
    · exact ⟨to8 (hR1 x hx), (h.lists.each x (hin1 x hx)).2⟩
    · rcases List.mem_cons.1 hx with rfl | hx
      · exact ⟨to8 ho7, by simp [hln]⟩
      · exact ⟨to8 (hR2 x hx), (h.lists.each x (hin2 x hx)).2⟩
  · show (K1 ++ _ :: K2).Pairwise _
    rw [List.pairwise_append, List.pairwise_cons]
    refine ⟨hdis.1, ⟨fun y hy j hj hj2 => ?_, hdis.2.1.2⟩, fun x hx y hy j hj hj2 => ?_⟩
    · exact apart y (fun j hj => ((h.lists.each y (hin2 y hy)).1.blk j hj).2) (hK2 y hy) j hj2 hj
    · rcases List.mem_cons.1 hy with rfl | hy
      · exact apart x (fun j hj => ((h.lists.each x (hin1 x hx)).1.blk j hj).2) (hK1 x hx) j hj hj2
      · exact hdis.2.2 x hx y (List.mem_cons_of_mem _ hy) j hj hj2
  · rcases List.mem_append.1 hy with hy | hy
    · exact h.ap y (hin1 y hy) x hx j hj2 hj
    · rcases List.mem_cons.1 hy with rfl | hy
      · exact apart x (fun j hj => ((h.known.each x hx).1.blk j hj).2) (fun j hj hj2 => h.ap k0 hk0 x hx j hj2 hj) j hj hj2
      · exact h.ap y (hin2 y hy) x hx j hj2 hj
end Go.Proofs.Yticgammbjcdobaa
