import Derived.Test.YticgammbjcdobaaNK
namespace Go.Proofs.Yticgammbjcdobaa
open Go.RowKit
set_option linter.unusedVariables false
set_option linter.unusedSimpArgs false
theorem Ow.some_of {w : World} {base : Nat} {e : TypeId} {k : Nat} {a : Option Addr} {n cap : Nat} {L : List Value} (h : Ow w base e k a n cap L) (hn : 0 < n) : ∃ g, a = some ⟨g, 0, none⟩ := by
  rcases h.2 with ⟨h1, h2⟩ | ⟨g, cp, cur, hv, hg, hh, r⟩
  · omega
  · simp only [Value.slice.injEq] at hv
    exact ⟨g, hv.1⟩
theorem Ow.cells {w : World} {base : Nat} {e : TypeId} {k : Nat} {a : Option Addr} {n cap : Nat} {L : List Value} (h : Ow w base e k a n cap L) {g : Nat} (ha : a = some ⟨g, 0, none⟩) : w.rangeAt g 0 L := fun j v hv => by
  rcases h.2 with ⟨h1, h2⟩ | ⟨g', cp, cur, hv2, hg, hh, r⟩
  · simp only [Value.slice.injEq] at h1
    rw [ha] at h1
    exact absurd h1.1 (by simp)
  · have h' : w.ownsRow base e k (.slice a n cap) n L := h
    simp only [Value.slice.injEq] at hv2
    obtain ⟨e1, -, e3⟩ := hv2
    rw [ha] at e1
    have e2 : g = g' := by simpa using e1
    subst e2
    subst ha
    have := h'.cells (g := g) rfl j v hv
    rw [addr_add0] at this
    rw [Nat.zero_add]
    exact this
theorem caps_one (l : List Cp) : ∀ u ∈ capsL l, u.oneCell' = true := by
  intro u hu
  simp only [capsL, List.mem_flatten, List.mem_map] at hu
  obtain ⟨x, ⟨c, _, rfl⟩, hu⟩ := hu
  exact one3 _ _ _ u hu
theorem capsL_len (l : List Cp) : (capsL l).length = l.length * 3 := by
  induction l with
  | nil => rfl
  | cons c l ih => simp only [capsL, List.map_cons, List.flatten_cons, List.length_append] at *; rw [ih]; simp [encC]; omega
theorem nilC (x : Addr) (n c : Nat) (w : World) : (binOp .eql 26 (.slice (some x) n c) (.slice none 0 0)).run Try.prog w = .ok (.bool false) w := by kernel_rfl
/-- A list of capabilities copied into new memory. -/
theorem caps_copy {w : World} {base : Nat} {a : Option Addr} {n c : Nat} {l : List Cp} (h : Ow w base 31 3 a n c (capsL l)) (hl : l.length = n) (hn : 0 < n) (hb : n ≤ 100000) :
    ∃ a' c' w', (Builtin.append_ #[26, 26] 26 #[.slice (some ⟨w.heap.size, 0, none⟩) 0 0, .slice a n c]).run Try.prog (w.alloc (Obj.cells #[] 31)) = .ok (.slice a' n c') w' ∧ Ow w' w.heap.size 31 3 a' n c' (capsL l) ∧ Below w.heap.size w w' := by
  obtain ⟨g, hg⟩ := h.some_of hn
  have hb1 := below1 w (Obj.cells #[] 31)
  obtain ⟨i, hi, hz0, hz1, hz2⟩ := info_parts infoC3
  have ho : (w.alloc (Obj.cells #[] 31)).ownsRow w.heap.size 31 3 (.slice (some ⟨w.heap.size, 0, none⟩) 0 0) 0 [] := ⟨by simp, .inr ⟨w.heap.size, 0, #[], rfl, Nat.le_refl _, Array.getElem?_push_size, Nat.le_refl _, Nat.zero_le _, by simp, by simp⟩⟩
  have hcell := (h.later hb1).cells hg
  obtain ⟨v', w', hr, h2, h3, _, h5⟩ := run_append_own_at (P := Try.prog) (w.alloc (Obj.cells #[] 31)) w.heap.size 26 26 31 i _ 3 24 Try.underlying26 hi hz0 hz1 hz2 rfl (by omega) _ 0 _ ho ⟨g, 0, none⟩ n c (capsL l) (by rw [capsL_len, hl]) (fun j u hu => by
    rw [addr_add0]
    have := hcell j u hu
    rw [Nat.zero_add] at this
    exact this) (caps_one l) (by unfold maxLen; omega) (by omega) (by simp)
  simp only [Nat.zero_add, List.nil_append] at h2
  obtain ⟨a', c', rfl⟩ : ∃ a' c', v' = .slice a' n c' := by
    rcases h2.2 with ⟨h, h'⟩ | ⟨g', cap', _, h, _⟩
    · exact ⟨.none, 0, by rw [h, h']⟩
    · exact ⟨_, cap', h⟩
  refine ⟨a', c', w', by rw [hg]; exact hr, h2, ?_⟩
  have hbut : But (Blk (some ⟨w.heap.size, 0, none⟩)) (w.alloc (Obj.cells #[] 31)) w' := ⟨h3.os, h3.tape, h3.output, h3.size, fun j hj hn => h3.block j hj (fun e => hn (Blk.of.1 e.symm))⟩
  exact But.below hb1 hbut (fun k hk => by obtain ⟨x, hx, e⟩ := hk; cases hx; simp at e; omega)
set_option maxRecDepth 100000 in
set_option maxHeartbeats 2000000 in
theorem clone_any {w : World} {base : Nat} {a : Option Addr} {n c : Nat} {l : List Cp} (h : Ow w base 31 3 a n c (capsL l)) (hl : l.length = n) (hn : 0 < n) (hb : n ≤ 100000) :
    Calls Try.prog 26 #[.slice a n c] w fun e w' => ∃ a' c', e = .returned (.slice a' n c') ∧ Ow w' w.heap.size 31 3 a' n c' (capsL l) ∧ Below w.heap.size w w' := by
  obtain ⟨g, rfl⟩ := h.some_of hn
  obtain ⟨a', c', w', hr, ho, hbe⟩ := caps_copy h hl hn hb
  have HR := hid hr
  have HO := hid ho
  have HB := hid hbe
  have hnil := nilC ⟨g, 0, none⟩ n c w
  clear hr ho hbe h
  go_enter Try.func26, Try.ntmps26
  go_wp2_with (first | (at_builtin; refine wpList_append_known rfl _ _ 26 rfl _ _ rfl rfl _ w' HR.out ?_))
  go_ret
  exact ⟨a', c', rfl, HO.out, HB.out⟩
set_option maxRecDepth 100000 in
set_option maxHeartbeats 2000000 in
theorem known_hit (m : Bm) (k : Kn) (w : World) (h : Bw w m) (hk : k ∈ m.K) (hn : 0 < k.s.n) (hb : k.s.n ≤ 100000) :
    Calls Try.prog 8 #[.pointer (some ⟨m.g, 0, none⟩), .int .i64 k.p] w fun e w' => ∃ a' c', e = .returned (.slice a' k.s.n c') ∧ Ow w' w.heap.size 31 3 a' k.s.n c' (capsL k.l) ∧ Below w.heap.size w w' := by
  obtain ⟨ho, hl⟩ := h.known.each k hk
  have HC := hid (clone_any ho hl hn hb)
  have HL := hid (h.known.out.hit ikey Try.underlying61 (List.mem_map.2 ⟨k, hk, rfl⟩) false)
  have q5 := h.bx.cell 5 rfl
  obtain ⟨kp, ⟨ka, kn, kc⟩, kl⟩ := k
  simp only at HC HL hn hb ⊢
  clear ho hl h hk
  go_enter Try.func8, Try.ntmps8
  go_wp2_with (first | ((with_reducible refine look_arm HL.out ?_ ?_ ?_); (· rfl); (· rfl)) | (go_at_call 26; refine HC.out.mono ?_; rintro e w' ⟨a', c', rfl, ho', hb'⟩; have HO := hid ho'; have HB := hid hb'; clear ho' hb'))
  go_ret
  exact ⟨a', c', rfl, HO.out, HB.out⟩
end Go.Proofs.Yticgammbjcdobaa
