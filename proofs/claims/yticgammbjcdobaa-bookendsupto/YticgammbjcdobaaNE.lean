import Derived.Test.YticgammbjcdobaaND
namespace Go.Proofs.Yticgammbjcdobaa
open Go.RowKit
set_option linter.unusedVariables false
set_option linter.unusedSimpArgs false
theorem bl_t {m : Bm} (hd : m.blks.Nodup) {j : Nat} (hj : j ∈ m.bt :: m.T.map Im.b) : (∀ i ∈ m.bl :: m.L.map Im.b, i ≠ j) ∧ ∀ i ∈ m.rest, i ≠ j := by
  have h1 := List.nodup_append.1 hd
  have h2 := List.nodup_append.1 h1.2.1
  exact ⟨fun i hi e => h1.2.2 i hi j (List.mem_append.2 (.inl hj)) e, fun i hi e => h2.2.2 j hj i hi e.symm⟩
theorem rest_a {m : Bm} {i : Nat} (hi : i ∈ m.ba :: m.A.map Im.b) : i ∈ m.rest := List.mem_cons_of_mem _ (List.mem_cons_of_mem _ (List.mem_cons_of_mem _ hi))
/-- A process's first telling. -/
theorem Bw.told_new {w w' : World} {m : Bm} (h : Bw w m) {p : Int} {k : Nat} {E : List (Value × Value)} (hk : w.heap.size ≤ k) (hl : Mm w' 95 m.bt (m.T ++ [⟨p, k, E⟩])) (hb : But (· = m.bt) w w') : Bw w' { m with T := m.T ++ [⟨p, k, E⟩] } := by
  have hd := h.dis
  obtain ⟨n1, n2⟩ := bl_t hd (j := m.bt) List.mem_cons_self
  have hkl : k < w'.heap.size := hl.lt k (List.mem_cons_of_mem _ (List.mem_map.2 ⟨⟨p, k, E⟩, List.mem_append.2 (.inr (List.mem_singleton.2 rfl)), rfl⟩))
  refine ⟨h.bx.but hb (n2 _ (by simp)), h.live.but hb n1, h.laid.but hb (fun j hj => n2 j (rest_a hj)), hl, h.lists.map h.told.out hb (n2 _ (by simp)), h.known.map h.told.out hb (n2 _ (by simp)), ?_, ?_, h.ap⟩
  · have hkn : k ∉ m.blks := fun hx => by have := h.lo k hx; omega
    have hp : Bm.blks { m with T := m.T ++ [⟨p, k, E⟩] } |>.Perm (k :: m.blks) := by
      simp only [Bm.blks, List.map_append, List.map_cons, List.map_nil]
      have e : (m.bl :: m.L.map Im.b) ++ ((m.bt :: (m.T.map Im.b ++ [k])) ++ m.rest) = ((m.bl :: m.L.map Im.b) ++ (m.bt :: m.T.map Im.b)) ++ k :: m.rest := by simp
      rw [e]
      refine List.perm_middle.trans ?_
      rw [List.append_assoc]
    exact hp.nodup_iff.2 (List.nodup_cons.2 ⟨hkn, hd⟩)
  · intro j hj
    have hs := hb.size
    simp only [Bm.blks, List.map_append, List.map_cons, List.map_nil] at hj
    have : j = k ∨ j ∈ m.blks := by
      simp only [List.mem_append, List.mem_cons, List.not_mem_nil, or_false, Bm.blks] at hj ⊢
      grind
    rcases this with rfl | hj
    · exact hkl
    · have := h.lo j hj; omega
/-- A telling more to a process that was told something. -/
theorem Bw.told_more {w w' : World} {m : Bm} (h : Bw w m) {T1 T2 : List Im} {g : Im} {E : List (Value × Value)} (hT : m.T = T1 ++ g :: T2) (hl : Mm w' 95 m.bt (T1 ++ ⟨g.p, g.b, E⟩ :: T2)) (hb : But (· = g.b) w w') : Bw w' { m with T := T1 ++ ⟨g.p, g.b, E⟩ :: T2 } := by
  have hd := h.dis
  have hg : g ∈ m.T := by rw [hT]; simp
  obtain ⟨n1, n2⟩ := bl_t hd (j := g.b) (List.mem_cons_of_mem _ (List.mem_map.2 ⟨g, hg, rfl⟩))
  have hmb : (T1 ++ (⟨g.p, g.b, E⟩ : Im) :: T2).map Im.b = m.T.map Im.b := by rw [hT]; simp
  have hbl : Bm.blks { m with T := T1 ++ ⟨g.p, g.b, E⟩ :: T2 } = m.blks := by simp only [Bm.blks]; rw [hmb]
  refine ⟨h.bx.but hb (n2 _ (by simp)), h.live.but hb n1, h.laid.but hb (fun j hj => n2 j (rest_a hj)), hl, h.lists.map (h.told.inn g hg) hb (n2 _ (by simp)), h.known.map (h.told.inn g hg) hb (n2 _ (by simp)), by rw [hbl]; exact hd, by rw [hbl]; exact fun j hj => Nat.lt_of_lt_of_le (h.lo j hj) hb.size, h.ap⟩
theorem infoC3 : (Try.prog.info? 31).map (fun i => (i.zero, i.size, i.bytes)) = some (some (.agg #[.int .i64 0, .int .u64 0, .int .u64 0]), 3, 24) := by kernel_rfl
theorem zCaps (w : World) : (zeroValue 26).run Try.prog w = .ok (.slice none 0 0) w := by kernel_rfl
theorem one3 (x : Int) (y z : Int) : ∀ u ∈ ([.int .i64 x, .int .u64 y, .int .u64 z] : List Value), u.oneCell' = true := by
  intro u hu
  simp only [List.mem_cons, List.not_mem_nil, or_false] at hu
  rcases hu with rfl | rfl | rfl <;> rfl
open Classical in
theorem upE_at {E1 E2 : List (Value × Value)} {k v0 v : Value} (hn : ((E1 ++ (k, v0) :: E2).map Prod.fst).Nodup) : upE (E1 ++ (k, v0) :: E2) k v = E1 ++ (k, v) :: E2 := by
  rw [List.map_append, List.map_cons, List.nodup_append] at hn
  have h1 : ∀ x ∈ E1, x.1 ≠ k := fun x hx e => hn.2.2 x.1 (List.mem_map.2 ⟨x, hx, rfl⟩) k List.mem_cons_self e
  have h2 : ∀ x ∈ E2, x.1 ≠ k := fun x hx e => (List.nodup_cons.1 hn.2.1).1 (by show k ∈ _; rw [← e]; exact List.mem_map.2 ⟨x, hx, rfl⟩)
  unfold upE
  rw [List.map_append, List.map_cons]
  have e1 : E1.map (fun x => if x.1 = k then (k, v) else x) = E1 := by
    conv => rhs; rw [← List.map_id E1]
    exact List.map_congr_left (fun x hx => by rw [if_neg (h1 x hx)]; rfl)
  have e2 : E2.map (fun x => if x.1 = k then (k, v) else x) = E2 := by
    conv => rhs; rw [← List.map_id E2]
    exact List.map_congr_left (fun x hx => by rw [if_neg (h2 x hx)]; rfl)
  rw [e1, e2]
  simp
theorem bk_ne {m : Bm} (hd : m.blks.Nodup) : (∀ i ∈ m.bl :: m.L.map Im.b, i ≠ m.bk) ∧ (∀ i ∈ m.bt :: m.T.map Im.b, i ≠ m.bk) ∧ m.g ≠ m.bk ∧ m.bi ≠ m.bk ∧ ∀ i ∈ m.ba :: m.A.map Im.b, i ≠ m.bk := by
  have h1 := List.nodup_append.1 hd
  have h2 := List.nodup_append.1 h1.2.1
  have h3 := List.nodup_cons.1 h2.2.1
  have h4 := List.nodup_cons.1 h3.2
  have h5 := List.nodup_cons.1 h4.2
  refine ⟨fun i hi e => h1.2.2 i hi m.bk (by simp) e, fun i hi e => h2.2.2 i hi m.bk (by simp) e, fun e => h3.1 (by rw [e]; simp), fun e => h4.1 (by rw [e]; simp), fun i hi e => h5.1 (by rw [← e]; exact hi)⟩
/-- Blocks of cells are none of a book's maps. -/
theorem Bw.cells {w : World} {m : Bm} (h : Bw w m) {base : Nat} {e : TypeId} {k : Nat} {a : Option Addr} {n cap : Nat} {L : List Value} (ho : Ow w base e k a n cap L) (hb : m.g < base) : ∀ j, Blk a j → j ∉ m.blks := by
  intro j hj hx
  have hm : ∀ {tk : TypeId} {E : List (Value × Value)}, Mg w tk j E → False := fun {tk} {E} hg => by
    obtain ⟨es, clk, h1, _⟩ := hg.ex
    exact map_ne h1 ho hj
  have hmm : ∀ {ti : TypeId} {b : Nat} {G : List Im}, Mm w ti b G → j ∈ b :: G.map Im.b → False := fun {ti} {b} {G} hG hx => by
    rcases List.mem_cons.1 hx with rfl | hx
    · exact hm hG.out
    · obtain ⟨g, hg, rfl⟩ := List.mem_map.1 hx
      exact hm (hG.inn g hg)
  rcases List.mem_append.1 hx with hx | hx
  · exact hmm h.live hx
  · rcases List.mem_append.1 hx with hx | hx
    · exact hmm h.told hx
    · rcases List.mem_cons.1 hx with rfl | hx
      · have := (ho.blk _ hj).1; omega
      · rcases List.mem_cons.1 hx with rfl | hx
        · exact hm h.lists.out
        · rcases List.mem_cons.1 hx with rfl | hx
          · exact hm h.known.out
          · exact hmm h.laid hx
/-- A capability more in a process's list of what it knows: its first. -/
theorem Bw.known_new {w : World} {m : Bm} (h : Bw w m) {p : Int} (hp : I64 p) (hn : ∀ k ∈ m.K, k.p ≠ p) (c : Cp) :
    (Instr.lookup 61 (.map (some m.bk)) (.int .i64 p) false).run Try.prog w = .ok (.slice none 0 0) w ∧
    ∃ a' c' w7 w8, (Builtin.append_ #[26, 26] 26 #[.slice none 0 0, .slice (some ⟨w.heap.size, 0, none⟩) 1 1]).run Try.prog (w.alloc (Obj.cells #[.int .i64 c.o, .int .u64 (c.h : Int), .int .u64 (c.l : Int)] 31)) = .ok (.slice a' 1 c') w7 ∧
      (Instr.mapUpdate 61 (.map (some m.bk)) (.int .i64 p) (.slice a' 1 c')).run Try.prog w7 = .ok () w8 ∧ Bw w8 { m with K := m.K ++ [⟨p, ⟨a', 1, c'⟩, [c]⟩] } ∧ But (· = m.bk) w w8 ∧ Below w.heap.size w w7 ∧ ∀ j, Blk a' j → w.heap.size ≤ j := by
  have hmk : ∀ x ∈ m.K.map (fun k => (Value.int .i64 k.p, Value.slice k.s.a k.s.n k.s.c)), x.1 ≠ Value.int .i64 p := fun x hx => by
    obtain ⟨k, hk, rfl⟩ := List.mem_map.1 hx
    intro e
    simp at e
    exact hn k hk e
  have hgl : m.g < w.heap.size := h.lo m.g (by simp)
  refine ⟨h.known.out.miss ikey Try.underlying61 (kint hp) hmk (zCaps w) false, ?_⟩
  obtain ⟨a', c', w7, r7, o7, b7, n7⟩ := ow_snoc 26 31 _ 3 24 Try.underlying26 infoC3 rfl (by omega) (w := w) (base := m.g + 1) (cs := [.int .i64 c.o, .int .u64 (c.h : Int), .int .u64 (c.l : Int)]) (Ow.nil w (m.g + 1) _ _) rfl (one3 _ _ _) (by omega) (by omega) (by omega)
  have hB7 : Below w.heap.size w w7 := But.below (Below.refl _ _) b7 (fun k hk => by obtain ⟨x, hx, _⟩ := hk; cases hx)
  have hw7 := h.later hB7
  obtain ⟨w8, r8, m8, b8, s8⟩ := hw7.known.out.add ikey Try.underlying61 (kint hp) hmk (.slice a' 1 c')
  obtain ⟨n1, n2, n3, n4, n5⟩ := bk_ne h.dis
  have hnew : ∀ j, Blk a' j → w.heap.size ≤ j := fun j hj => by
    rcases n7 j hj with ⟨x, hx, _⟩ | h'
    · cases hx
    · exact h'
  have ho8 : Ow w8 (m.g + 1) 31 3 a' 1 c' (capsL [c]) := by
    have : Ow w7 (m.g + 1) 31 3 a' 1 c' (capsL [c]) := by simpa [capsL, encC] using o7
    exact this.but b8 (fun j hj e => hw7.cells this (by omega) j hj (by subst e; simp [Bm.blks]))
  have hk8 : ∀ k ∈ m.K, Ow w8 (m.g + 1) 31 3 k.s.a k.s.n k.s.c (capsL k.l) := fun k hk => (hw7.known.each k hk).1.but b8 (fun j hj e => hw7.cells (hw7.known.each k hk).1 (by omega) j hj (by subst e; simp [Bm.blks]))
  refine ⟨a', c', w7, w8, by simpa using r7, r8, ⟨hw7.bx.but b8 n3, hw7.live.but b8 n1, hw7.laid.but b8 n5, hw7.told.but b8 n2, hw7.lists.map hw7.known.out b8 n4, ⟨by rw [List.map_append]; exact m8, fun k hk => ?_, ?_⟩, h.dis, fun j hj => Nat.lt_of_lt_of_le (hw7.lo j hj) b8.size, fun x hx y hy j hj hj2 => ?_⟩, (But.of hB7).trans b8, hB7, hnew⟩
  · rcases List.mem_append.1 hk with hk | hk
    · exact ⟨hk8 k hk, (h.known.each k hk).2⟩
    · rw [List.mem_singleton.1 hk]
      exact ⟨ho8, rfl⟩
  · show (m.K ++ [_]).Pairwise _
    rw [List.pairwise_append]
    refine ⟨h.known.dis, List.pairwise_singleton _ _, fun x hx y hy j hj hj2 => ?_⟩
    rw [List.mem_singleton.1 hy] at hj2
    have h1 := ((h.known.each x hx).1.blk j hj).2
    have h2 := hnew j hj2
    omega
  · rcases List.mem_append.1 hy with hy | hy
    · exact h.ap x hx y hy j hj hj2
    · rw [List.mem_singleton.1 hy] at hj2
      have h1 := ((h.lists.each x hx).1.blk j hj).2
      have h2 := hnew j hj2
      omega
/-- .. one more. -/
theorem Bw.known_more {w : World} {m : Bm} (h : Bw w m) {K1 K2 : List Kn} {k0 : Kn} (hK : m.K = K1 ++ k0 :: K2) (hl : k0.s.n + 1 ≤ 100000) (c : Cp) :
    (Instr.lookup 61 (.map (some m.bk)) (.int .i64 k0.p) false).run Try.prog w = .ok (.slice k0.s.a k0.s.n k0.s.c) w ∧
    ∃ a' c' w7 w8, (Builtin.append_ #[26, 26] 26 #[.slice k0.s.a k0.s.n k0.s.c, .slice (some ⟨w.heap.size, 0, none⟩) 1 1]).run Try.prog (w.alloc (Obj.cells #[.int .i64 c.o, .int .u64 (c.h : Int), .int .u64 (c.l : Int)] 31)) = .ok (.slice a' (k0.s.n + 1) c') w7 ∧
      (Instr.mapUpdate 61 (.map (some m.bk)) (.int .i64 k0.p) (.slice a' (k0.s.n + 1) c')).run Try.prog w7 = .ok () w8 ∧ Bw w8 { m with K := K1 ++ ⟨k0.p, ⟨a', k0.s.n + 1, c'⟩, k0.l ++ [c]⟩ :: K2 } ∧ But (fun j => j = m.bk ∨ Blk k0.s.a j) w w8 ∧ But (Blk k0.s.a) w w7 ∧ ∀ j, Blk a' j → Blk k0.s.a j ∨ w.heap.size ≤ j := by
  have hk0 : k0 ∈ m.K := by rw [hK]; simp
  have hgl : m.g < w.heap.size := h.lo m.g (by simp)
  have hmem : (Value.int .i64 k0.p, Value.slice k0.s.a k0.s.n k0.s.c) ∈ m.K.map (fun k => (Value.int .i64 k.p, Value.slice k.s.a k.s.n k.s.c)) := List.mem_map.2 ⟨k0, hk0, rfl⟩
  refine ⟨h.known.out.hit ikey Try.underlying61 hmem false, ?_⟩
  obtain ⟨ho0, hln⟩ := h.known.each k0 hk0
  obtain ⟨a', c', w7, r7, o7, b7, n7⟩ := ow_snoc 26 31 _ 3 24 Try.underlying26 infoC3 rfl (by omega) (cs := [.int .i64 c.o, .int .u64 (c.h : Int), .int .u64 (c.l : Int)]) ho0 rfl (one3 _ _ _) (by omega) hl (by omega)
  have hc0 := h.cells ho0 (by omega)
  have hS : ∀ i ∈ m.blks, ¬ Blk k0.s.a i := fun i hi hb => hc0 i hb hi
  obtain ⟨n1, n2, n3, n4, n5⟩ := bk_ne h.dis
  have bx7 := h.bx.but b7 (hS _ (by simp [Bm.blks]))
  have live7 := h.live.but b7 (fun j hj => hS j (List.mem_append.2 (.inl hj)))
  have laid7 := h.laid.but b7 (fun j hj => hS j (List.mem_append.2 (.inr (List.mem_append.2 (.inr (rest_a hj))))))
  have told7 := h.told.but b7 (fun j hj => hS j (List.mem_append.2 (.inr (List.mem_append.2 (.inl hj)))))
  have kout7 := h.known.out.but b7 (hS _ (by simp [Bm.blks]))
  have lout7 := h.lists.out.but b7 (hS _ (by simp [Bm.blks]))
  have ho7 : Ow w7 (m.g + 1) 31 3 a' (k0.s.n + 1) c' (capsL (k0.l ++ [c])) := by simpa [capsL, encC] using o7
  have hI7 : ∀ x ∈ m.I, Ow w7 (m.g + 1) 31 3 x.s.a x.s.n x.s.c (capsL x.l) := fun x hx => (h.lists.each x hx).1.but b7 (fun j hj hj2 => h.ap x hx k0 hk0 j hj hj2)
  have hdis := h.known.dis
  rw [hK, List.pairwise_append, List.pairwise_cons] at hdis
  have hK1 : ∀ x ∈ K1, ∀ j, Blk x.s.a j → ¬ Blk k0.s.a j := fun x hx j hj => hdis.2.2 x hx k0 List.mem_cons_self j hj
  have hK2 : ∀ x ∈ K2, ∀ j, Blk x.s.a j → ¬ Blk k0.s.a j := fun x hx j hj hj2 => hdis.2.1.1 x hx j hj2 hj
  have hin1 : ∀ x ∈ K1, x ∈ m.K := fun x hx => by rw [hK]; simp [hx]
  have hin2 : ∀ x ∈ K2, x ∈ m.K := fun x hx => by rw [hK]; simp [hx]
  have hR1 : ∀ x ∈ K1, Ow w7 (m.g + 1) 31 3 x.s.a x.s.n x.s.c (capsL x.l) := fun x hx => (h.known.each x (hin1 x hx)).1.but b7 (fun j hj hj2 => hK1 x hx j hj hj2)
  have hR2 : ∀ x ∈ K2, Ow w7 (m.g + 1) 31 3 x.s.a x.s.n x.s.c (capsL x.l) := fun x hx => (h.known.each x (hin2 x hx)).1.but b7 (fun j hj hj2 => hK2 x hx j hj hj2)
  have hmap : ∀ {a : Option Addr} {n cap : Nat} {L : List Value}, Ow w7 (m.g + 1) 31 3 a n cap L → ¬ Blk a m.bk := fun {a} {n} {cap} {L} ho => by
    obtain ⟨es, clk, h1, _⟩ := kout7.ex
    exact map_ne h1 ho
  obtain ⟨w8, r8, m8, b8, s8⟩ := kout7.set ikey Try.underlying61 hmem (.slice a' (k0.s.n + 1) c')
  have e8 : upE (m.K.map (fun k => (Value.int .i64 k.p, Value.slice k.s.a k.s.n k.s.c))) (.int .i64 k0.p) (.slice a' (k0.s.n + 1) c') = (K1 ++ (⟨k0.p, ⟨a', k0.s.n + 1, c'⟩, k0.l ++ [c]⟩ : Kn) :: K2).map (fun k => (Value.int .i64 k.p, Value.slice k.s.a k.s.n k.s.c)) := by
    have hnd := h.known.out.nd
    rw [hK, List.map_append, List.map_cons] at hnd ⊢
    rw [upE_at hnd]
    simp
  rw [e8] at m8
  have to8 : ∀ {a : Option Addr} {n cap : Nat} {L : List Value}, Ow w7 (m.g + 1) 31 3 a n cap L → Ow w8 (m.g + 1) 31 3 a n cap L := fun ho => ho.but b8 (fun j hj e => hmap ho (by subst e; exact hj))
  have hnew : ∀ j, Blk a' j → Blk k0.s.a j ∨ w.heap.size ≤ j := n7
  have apart : ∀ x : Kn, (∀ j, Blk x.s.a j → j < w.heap.size) → (∀ j, Blk x.s.a j → ¬ Blk k0.s.a j) → ∀ j, Blk x.s.a j → ¬ Blk a' j := fun x h1 h2 j hj hj2 => by
    rcases hnew j hj2 with h3 | h3
    · exact h2 j hj h3
    · have := h1 j hj; omega
  refine ⟨a', c', w7, w8, r7, r8, ⟨bx7.but b8 n3, live7.but b8 n1, laid7.but b8 n5, told7.but b8 n2, ⟨lout7.but b8 n4, fun x hx => ⟨to8 (hI7 x hx), (h.lists.each x hx).2⟩, h.lists.dis⟩, ⟨m8, fun x hx => ?_, ?_⟩, h.dis, fun j hj => Nat.lt_of_lt_of_le (h.lo j hj) (Nat.le_trans b7.size b8.size), fun x hx y hy j hj hj2 => ?_⟩, (b7.mono (fun j hj => .inr hj)).trans (b8.mono (fun j hj => .inl hj)), b7, hnew⟩
  · rcases List.mem_append.1 hx with hx | hx
    · exact ⟨to8 (hR1 x hx), (h.known.each x (hin1 x hx)).2⟩
    · rcases List.mem_cons.1 hx with rfl | hx
      · exact ⟨to8 ho7, by simp [hln]⟩
      · exact ⟨to8 (hR2 x hx), (h.known.each x (hin2 x hx)).2⟩
  · show (K1 ++ _ :: K2).Pairwise _
    rw [List.pairwise_append, List.pairwise_cons]
    refine ⟨hdis.1, ⟨fun y hy j hj hj2 => ?_, hdis.2.1.2⟩, fun x hx y hy j hj hj2 => ?_⟩
    · exact apart y (fun j hj => ((h.known.each y (hin2 y hy)).1.blk j hj).2) (hK2 y hy) j hj2 hj
    · rcases List.mem_cons.1 hy with rfl | hy
      · exact apart x (fun j hj => ((h.known.each x (hin1 x hx)).1.blk j hj).2) (hK1 x hx) j hj hj2
      · exact hdis.2.2 x hx y (List.mem_cons_of_mem _ hy) j hj hj2
  · rcases List.mem_append.1 hy with hy | hy
    · exact h.ap x hx y (hin1 y hy) j hj hj2
    · rcases List.mem_cons.1 hy with rfl | hy
      · exact apart x (fun j hj => ((h.lists.each x hx).1.blk j hj).2) (fun j hj => h.ap x hx k0 hk0 j hj) j hj hj2
      · exact h.ap x hx y (hin2 y hy) j hj hj2
end Go.Proofs.Yticgammbjcdobaa
