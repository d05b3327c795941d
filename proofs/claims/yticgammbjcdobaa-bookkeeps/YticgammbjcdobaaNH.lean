import Derived.Test.YticgammbjcdobaaNG
namespace Go.Proofs.Yticgammbjcdobaa
open Go.RowKit
set_option linter.unusedVariables false
set_option linter.unusedSimpArgs false
abbrev lkV (s kd b t : Int) (c : Cp) : Value := .agg #[.int .i64 s, .int .i64 kd, .int .i64 b, .int .i64 t, .int .i64 c.o, .int .u64 (c.h : Int), .int .u64 (c.l : Int)]
/-- A telling's cells. -/
abbrev tlL (s kd b t : Int) (c : Cp) (ah : Option Addr) : List Value := [.int .i64 s, .int .i64 kd, .int .i64 b, .int .i64 t, .int .i64 c.o, .int .u64 (c.h : Int), .int .u64 (c.l : Int), .pointer ah]
theorem tell_newk (m : Bm) (s0 kd b t : Int) (c : Cp) (ah : Option Addr) (w : World) (h : Bw w m) (hc : c.far) (hF : hasF c = true) (hp : I64 t) (hT : ∀ g ∈ m.T, g.p ≠ t) (hK : ∀ k ∈ m.K, k.p ≠ t) :
    Calls Try.prog 34 #[.pointer (some ⟨m.g, 0, none⟩), lkV s0 kd b t c, .pointer ah] w fun e w' => e = .returned (.tuple #[]) ∧ ∃ kt ki s, w.heap.size ≤ ki ∧ w.heap.size ≤ kt ∧ (s.n = 1 ∧ ∀ j, Blk s.a j → w.heap.size ≤ j) ∧ Bw w' { m with T := m.T ++ [⟨t, ki, [(fmV (frm c), .pointer (some ⟨kt, 0, none⟩))]⟩], K := m.K ++ [⟨t, s, [c]⟩] } ∧ Bx w' kt (tlL m.n kd b t c ah) ∧ w'.heap[kt]? = some (Obj.cells (tlL m.n kd b t c ah).toArray 92) ∧ But (fun j => j = m.bt ∨ j = m.bk) w w' := by
  obtain ⟨o, ch, cl⟩ := c
  have hd := h.dis
  have hbt := h.lo m.bt (by simp [Bm.blks])
  have hbk := h.lo m.bk (by simp [Bm.blks])
  refine (tell_gen m s0 kd b t o ch cl ah w h hc hF hp (fun g hg e => absurd e (hT g hg)) (· = m.bt) (· = m.bk) (fun m1 kt => ∃ ki, w.heap.size ≤ ki ∧ m1 = { m with T := m.T ++ [⟨t, ki, [(fmV (frm ⟨o, ch, cl⟩), .pointer (some ⟨kt, 0, none⟩))]⟩] }) (fun w' kt => ∃ ki s, w.heap.size ≤ ki ∧ (s.n = 1 ∧ ∀ j, Blk s.a j → w.heap.size ≤ j) ∧ Bw w' { m with T := m.T ++ [⟨t, ki, [(fmV (frm ⟨o, ch, cl⟩), .pointer (some ⟨kt, 0, none⟩))]⟩], K := m.K ++ [⟨t, s, [⟨o, ch, cl⟩]⟩] }) ?_ (fun j e => by omega) (fun j e => ⟨by omega, fun e2 => (bk_ne hd).2.2.1 (by omega)⟩) ?_).mono ?_
  · intro U kt hU
    refine (keepF_fresh m.bt m.T t (frm ⟨o, ch, cl⟩) (some ⟨kt, 0, none⟩) U ((h.later hU).told) hp (frm_len _) (frm_sml _) hT).mono ?_
    rintro e w' ⟨rfl, k, hk, hm, hb⟩
    exact ⟨rfl, _, (h.later hU).told_new hk hm hb, ⟨k, Nat.le_trans hU.size hk, rfl⟩, rfl, rfl, hb⟩
  · rintro U m1 kt hUs hB ⟨ki, hki, rfl⟩ hcl
    obtain ⟨l0, a', c', w7, w8, r7, r8, hw8, hb8, hb7, hnw⟩ := hB.known_new hp hK ⟨o, ch, cl⟩
    exact ⟨.slice none 0 0, .slice a' 1 c', w7, w8, fun U' hU' => ((hB.later hU').known_new hp hK ⟨o, ch, cl⟩).1, r7, r8, ⟨ki, ⟨a', 1, c'⟩, hki, ⟨rfl, fun j hj => Nat.le_trans hUs (hnw j hj)⟩, hw8⟩, hb8, But.of hb7⟩
  · rintro e w' ⟨rfl, kt, hkt, ⟨ki, s, hki, hs, hw⟩, hx, hty, hb⟩
    exact ⟨rfl, kt, ki, s, hki, hkt, hs, hw, hx, hty, hb⟩
theorem tell_new (m : Bm) (s0 kd b t : Int) (c : Cp) (ah : Option Addr) (w : World) (h : Bw w m) (hc : c.far) (hF : hasF c = true) (hp : I64 t) (hT : ∀ g ∈ m.T, g.p ≠ t) (hK : ∀ k ∈ m.K, k.p ≠ t) :
    Calls Try.prog 34 #[.pointer (some ⟨m.g, 0, none⟩), lkV s0 kd b t c, .pointer ah] w fun e w' => e = .returned (.tuple #[]) ∧ ∃ kt ki s, w.heap.size ≤ kt ∧ (s.n = 1 ∧ ∀ j, Blk s.a j → w.heap.size ≤ j) ∧ Bw w' { m with T := m.T ++ [⟨t, ki, [(fmV (frm c), .pointer (some ⟨kt, 0, none⟩))]⟩], K := m.K ++ [⟨t, s, [c]⟩] } ∧ Bx w' kt (tlL m.n kd b t c ah) ∧ w'.heap[kt]? = some (Obj.cells (tlL m.n kd b t c ah).toArray 92) ∧ But (fun j => j = m.bt ∨ j = m.bk) w w' := by
  refine (tell_newk m s0 kd b t c ah w h hc hF hp hT hK).mono ?_
  rintro e w' ⟨rfl, kt, ki, s, hki, hkt, hs, hw, hx, hty, hb⟩
  exact ⟨rfl, kt, ki, s, hkt, hs, hw, hx, hty, hb⟩
theorem tell_more (m : Bm) (s0 kd b : Int) (c : Cp) (ah : Option Addr) (w : World) (h : Bw w m) (hc : c.far) (hF : hasF c = true) {T1 T2 : List Im} {g : Im} {K1 K2 : List Kn} {k0 : Kn} (hT : m.T = T1 ++ g :: T2) (hK : m.K = K1 ++ k0 :: K2) (hgk : g.p = k0.p) (hp : I64 k0.p) (hg : ∀ x ∈ g.E, x.1 ≠ fmV (frm c)) (hl : k0.s.n + 1 ≤ 100000) :
    Calls Try.prog 34 #[.pointer (some ⟨m.g, 0, none⟩), lkV s0 kd b k0.p c, .pointer ah] w fun e w' => e = .returned (.tuple #[]) ∧ ∃ kt s, w.heap.size ≤ kt ∧ (s.n = k0.s.n + 1 ∧ ∀ j, Blk s.a j → Blk k0.s.a j ∨ w.heap.size ≤ j) ∧ Bw w' { m with T := T1 ++ ⟨g.p, g.b, g.E ++ [(fmV (frm c), .pointer (some ⟨kt, 0, none⟩))]⟩ :: T2, K := K1 ++ ⟨k0.p, s, k0.l ++ [c]⟩ :: K2 } ∧ Bx w' kt (tlL m.n kd b k0.p c ah) ∧ w'.heap[kt]? = some (Obj.cells (tlL m.n kd b k0.p c ah).toArray 92) ∧ But (fun j => j = g.b ∨ (j = m.bk ∨ Blk k0.s.a j)) w w' := by
  obtain ⟨o, ch, cl⟩ := c
  have hd := h.dis
  have hgm : g ∈ m.T := by rw [hT]; simp
  have hkm : k0 ∈ m.K := by rw [hK]; simp
  have hgb := h.lo g.b (List.mem_append.2 (.inr (List.mem_append.2 (.inl (List.mem_cons_of_mem _ (List.mem_map.2 ⟨g, hgm, rfl⟩))))))
  have hbk := h.lo m.bk (by simp [Bm.blks])
  have hro := (h.known.each k0 hkm).1
  refine (tell_gen m s0 kd b k0.p o ch cl ah w h hc hF hp (fun g' hg' e x hx => by
      have := h.told.same hg' hgm (e.trans hgk.symm)
      subst this
      exact hg x hx) (· = g.b) (fun j => j = m.bk ∨ Blk k0.s.a j) (fun m1 kt => m1 = { m with T := T1 ++ ⟨g.p, g.b, g.E ++ [(fmV (frm ⟨o, ch, cl⟩), .pointer (some ⟨kt, 0, none⟩))]⟩ :: T2 }) (fun w' kt => ∃ s, (s.n = k0.s.n + 1 ∧ ∀ j, Blk s.a j → Blk k0.s.a j ∨ w.heap.size ≤ j) ∧ Bw w' { m with T := T1 ++ ⟨g.p, g.b, g.E ++ [(fmV (frm ⟨o, ch, cl⟩), .pointer (some ⟨kt, 0, none⟩))]⟩ :: T2, K := K1 ++ ⟨k0.p, s, k0.l ++ [⟨o, ch, cl⟩]⟩ :: K2 }) ?_ (fun j e => by omega) (fun j e => ?_) ?_).mono ?_
  · intro U kt hU
    have := keepF_more m.bt m.T T1 T2 g (frm ⟨o, ch, cl⟩) (some ⟨kt, 0, none⟩) U ((h.later hU).told) hT (frm_len _) (frm_sml _) hg
    rw [hgk] at this
    refine this.mono ?_
    rintro e w' ⟨rfl, hm, hb⟩
    rw [← hgk] at hm
    exact ⟨rfl, _, (h.later hU).told_more hT hm hb, rfl, rfl, rfl, hb⟩
  · rcases e with e | e
    · exact ⟨by omega, fun e2 => (bk_ne hd).2.2.1 (by omega)⟩
    · have := hro.blk j e
      exact ⟨this.2, by omega⟩
  · rintro U m1 kt hUs hB rfl hcl
    obtain ⟨l0, a', c', w7, w8, r7, r8, hw8, hb8, hb7, hnw⟩ := hB.known_more hK hl ⟨o, ch, cl⟩
    exact ⟨.slice k0.s.a k0.s.n k0.s.c, .slice a' (k0.s.n + 1) c', w7, w8, fun U' hU' => ((hB.later hU').known_more hK hl ⟨o, ch, cl⟩).1, r7, r8, ⟨⟨a', k0.s.n + 1, c'⟩, ⟨rfl, fun j hj => (hnw j hj).imp id (fun h => Nat.le_trans hUs h)⟩, hw8⟩, hb8, hb7.mono (fun j hj => .inr hj)⟩
  · rintro e w' ⟨rfl, kt, hkt, ⟨s, hs, hw⟩, hx, hty, hb⟩
    exact ⟨rfl, kt, s, hkt, hs, hw, hx, hty, hb⟩
end Go.Proofs.Yticgammbjcdobaa
