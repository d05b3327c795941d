import Derived.Test.YticgammbjcdobaaNO
namespace Go.Proofs.Yticgammbjcdobaa
open Go.RowKit
set_option linter.unusedVariables false
set_option linter.unusedSimpArgs false
/-- A telling in memory, as it was made. -/
abbrev Tyd (w : World) (k : Nat) (s kd b t : Int) (c : Cp) (ah : Option Addr) : Prop := w.heap[k]? = some (Obj.cells (tlL s kd b t c ah).toArray 92)
theorem Tyd.but {S : Nat → Prop} {w w' : World} {k : Nat} {s kd b t : Int} {c : Cp} {ah : Option Addr} (h : Tyd w k s kd b t c ah) (hb : But S w w') (hn : ¬ S k) : Tyd w' k s kd b t c ah := by
  show w'.heap[k]? = _
  rw [hb.block k (Array.getElem?_eq_some_iff.1 h).1 hn]
  exact h
theorem Tyd.lt {w : World} {k : Nat} {s kd b t : Int} {c : Cp} {ah : Option Addr} (h : Tyd w k s kd b t c ah) : k < w.heap.size := (Array.getElem?_eq_some_iff.1 h).1
theorem Tyd.map {w : World} {k : Nat} {s kd b t : Int} {c : Cp} {ah : Option Addr} (h : Tyd w k s kd b t c ah) {tk : TypeId} {bm : Nat} {E : List (Value × Value)} (hm : Mg w tk bm E) : k ≠ bm := fun e => by
  obtain ⟨es, clk, h1, _⟩ := hm.ex
  subst e
  have h' : w.heap[k]? = _ := h
  rw [h1] at h'
  cases h'
theorem Tyd.row {w : World} {k : Nat} {s kd b t : Int} {c : Cp} {ah : Option Addr} (h : Tyd w k s kd b t c ah) {base : Nat} {a : Option Addr} {n cap : Nat} {L : List Value} (ho : Ow w base 31 3 a n cap L) : ¬ Blk a k := fun hk => by
  obtain ⟨x, hx, e1⟩ := hk
  rcases ho.2 with ⟨h1, h2⟩ | ⟨g, cp, cur, hv, hg, hh, r⟩
  · simp only [Value.slice.injEq] at h1
    rw [hx] at h1
    exact absurd h1.1 (by simp)
  · simp only [Value.slice.injEq] at hv
    rw [hx] at hv
    have e2 := Option.some.inj hv.1
    rw [e2] at e1
    simp only at e1
    subst e1
    have h' : w.heap[g]? = _ := h
    rw [hh] at h'
    simp at h'
theorem Tyd.bx {w : World} {k : Nat} {s kd b t : Int} {c : Cp} {ah : Option Addr} (h : Tyd w k s kd b t c ah) : Bx w k (tlL s kd b t c ah) := by
  have h' : w.heap[k]? = some (Obj.cells (tlL s kd b t c ah).toArray 92) := h
  refine ⟨fun j v hv => ?_, fun j hj => ⟨?_, ?_⟩⟩
  · rw [Nat.zero_add]
    simp [World.cell?, h', hv]
  · rw [Nat.zero_add]
    simp [World.cell?, h']
    simpa using hj
  · simp [World.frozen?, h']
theorem leL_inj {a b : Nat} (ha : a < 18446744073709551616) (hb : b < 18446744073709551616) (h : leL a 8 = leL b 8) : a = b := by
  have h1 := valL_leL a 8
  have h2 := valL_leL b 8
  rw [h, h2] at h1
  have e : (256 : Nat) ^ 8 = 18446744073709551616 := by decide
  rw [e, Nat.mod_eq_of_lt ha, Nat.mod_eq_of_lt hb] at h1
  exact h1.symm
theorem frm_obj {c d : Cp} (hc : hasF c = true) (hd : hasF d = true) (h : frm c = frm d) : c.o = d.o := by
  have hc' : 0 ≤ c.o ∧ c.o ≤ 4611686018427387904 := of_decide_eq_true hc
  have hd' : 0 ≤ d.o ∧ d.o ≤ 4611686018427387904 := of_decide_eq_true hd
  unfold frm at h
  have h1 := congrArg (List.take 8) h
  rw [List.append_assoc, List.append_assoc, List.take_left' (by rw [leL_length]), List.take_left' (by rw [leL_length])] at h1
  have := leL_inj (by omega) (by omega) h1
  omega
theorem Tyd.g {w : World} {k : Nat} {s kd b t : Int} {c : Cp} {ah : Option Addr} (h : Tyd w k s kd b t c ah) {m : Bm} (hb : Bx w m.g m.cells) : k ≠ m.g := fun e => by
  have h1 := hb.cell 1 rfl
  have h2 := h.bx.cell 1 rfl
  rw [e, h1] at h2
  simp at h2
/-- A book of creations alone, by process 0: the objects 1, 2, .. in their order. -/
structure Kp (U : World) (m : Bm) (l : List Cp) : Prop where
  bw : Bw U m
  n : m.n = l.length
  lo : ∀ g ∈ m.L, g.p ≤ l.length
  ok : ∀ (i : Nat) c, l[i]? = some c → c.o = (i : Int) + 1 ∧ c.far
  i0 : m.I = []
  tk : (l = [] ∧ m.T = [] ∧ m.K = []) ∨ ∃ g k0, l ≠ [] ∧ m.T = [g] ∧ m.K = [k0] ∧ g.p = 0 ∧ k0.p = 0 ∧ k0.l = l ∧ (∀ (i : Nat) c, l[i]? = some c → ∃ kt, (fmV (frm c), Value.pointer (some ⟨kt, 0, none⟩)) ∈ g.E ∧ Tyd U kt ((i : Int) + 1) 1 0 0 c none) ∧ ∀ x ∈ g.E, ∃ c ∈ l, x.1 = fmV (frm c)
theorem has_of {o : Int} {h l : Nat} (h1 : 1 ≤ o) (h2 : o ≤ 1000) : hasF ⟨o, h, l⟩ = true := decide_eq_true (by constructor <;> simp only <;> omega)
theorem Kp.note {w : World} {m : Bm} {l : List Cp} (h : Kp w m l) (c : Cp) (ho : c.o = (l.length : Int) + 1) (hf : c.far) (hl : l.length < 100) (C : List Value) (hC : C.length = 13) (h0 : C[0]? = some (.int .i64 1)) (h1 : C[1]? = some (.int .i64 0)) (d : Sl) (nu : Int) :
    Calls Try.prog 7 #[.pointer (some ⟨m.g, 0, none⟩), .agg C.toArray, rpV 0 c d nu] w fun e w' => e = .returned (.tuple #[]) ∧ ∃ m', Kp w' m' (l ++ [c]) ∧ m'.g = m.g ∧ (∀ k' ∈ m'.K, ∀ j, Blk k'.s.a j → (∃ k ∈ m.K, Blk k.s.a j) ∨ w.heap.size ≤ j) ∧ (∀ j ∈ m'.blks, j ∈ m.blks ∨ w.heap.size ≤ j) ∧ But (fun j => j ∈ m.blks ∨ ∃ k ∈ m.K, Blk k.s.a j) w w' := by
  have hn := h.n
  have hok : ∀ (i : Nat) x, (l ++ [c])[i]? = some x → x.o = (i : Int) + 1 ∧ x.far := fun i x hx => by
    by_cases hi : i < l.length
    · rw [List.getElem?_append_left hi] at hx
      exact h.ok i x hx
    · have hi2 := (List.getElem?_eq_some_iff.1 hx).1
      simp at hi2
      obtain rfl : i = l.length := by omega
      simp at hx
      subst hx
      exact ⟨ho, hf⟩
  have hF : hasF c = true := decide_eq_true ⟨by omega, by omega⟩
  refine note_create m C 0 nu c d w h.bw hf hC h0 h1 (fun g hg e => by have := h.lo g hg; omega) ⟨by omega, by omega⟩ _ (fun V U k hk hbV hbU hbw => ?_)
  have hbl : m.bl ∈ m.blks := by simp [Bm.blks]
  have hbt : m.bt ∈ m.blks := by simp [Bm.blks]
  have hbk : m.bk ∈ m.blks := by simp [Bm.blks]
  have hgm : m.g ∈ m.blks := by simp [Bm.blks]
  have hlo : ∀ g ∈ (Bm.iss { m with n := m.n + 1 } k c c.h c.l 31).L, g.p ≤ ((l ++ [c]).length : Int) := fun g hg => by
    have hg' : g ∈ m.L ++ [⟨c.o, k, [(wdV c.h c.l, Tn.v ⟨c.h, c.l, c.h, c.l, 31, m.n + 1⟩)]⟩] := hg
    rcases List.mem_append.1 hg' with hg' | hg'
    · have := h.lo g hg'; simp; omega
    · rw [List.mem_singleton.1 hg']; simp; omega
  rcases h.tk with ⟨rfl, hT, hK⟩ | ⟨g, k0, -, hT, hK, hg0, hk0, hkl, hte, hke⟩
  · refine (tell_newk (Bm.iss { m with n := m.n + 1 } k c c.h c.l 31) 0 1 0 0 c none U hbw hf hF (by omega) (fun g hg => by have : g ∈ m.T := hg; rw [hT] at this; cases this) (fun x hx => by have : x ∈ m.K := hx; rw [hK] at this; cases this)).mono ?_
    rintro e w' ⟨rfl, kt, ki, s, hki, hkt, hs, hw, hx, hty, hb⟩
    refine ⟨rfl, _, ⟨hw, by show m.n + 1 = _; simp at hn ⊢; omega, hlo, hok, h.i0, .inr ⟨⟨0, ki, [(fmV (frm c), .pointer (some ⟨kt, 0, none⟩))]⟩, ⟨0, s, [c]⟩, by simp, by show m.T ++ _ = _; rw [hT]; rfl, by show m.K ++ _ = _; rw [hK]; rfl, rfl, rfl, rfl, fun i x hx => ?_, fun x hx => ?_⟩⟩, rfl, ?_, ?_, ?_⟩
    · have hi := (List.getElem?_eq_some_iff.1 hx).1
      simp at hi
      subst hi
      simp at hx
      subst hx
      refine ⟨kt, by simp, ?_⟩
      have e0 : m.n + 1 = ((0 : Nat) : Int) + 1 := by simp at hn; omega
      have : Tyd w' kt (m.n + 1) 1 0 0 c none := hty
      rw [e0] at this
      exact this
    · simp at hx
      exact ⟨c, by simp, by rw [hx]⟩
    · intro k' hk' j hj
      have hk2 : k' ∈ m.K ++ [⟨0, s, [c]⟩] := hk'
      rw [hK] at hk2
      simp at hk2
      subst hk2
      exact .inr (Nat.le_trans (Nat.le_trans hbV.size hbU.size) (hs.2 j hj))
    · intro j hj
      have hUw := Nat.le_trans hbV.size hbU.size
      simp only [Bm.blks, Bm.iss, Bm.rest, List.map_append, List.map_cons, List.map_nil, List.mem_append, List.mem_cons, List.not_mem_nil, or_false] at hj ⊢
      by_cases e1 : j = k
      · right; omega
      · by_cases e2 : j = ki
        · right; omega
        · left
          simp only [e1, e2, or_false, false_or] at hj
          exact hj
    · exact ((hbV.mono (fun j hj => .inl (by subst hj; exact hgm))).trans (hbU.mono (fun j hj => .inl (by subst hj; exact hbl)))).trans (hb.mono (fun j hj => .inl (by rcases hj with rfl | rfl; exact hbt; exact hbk)))
  · have hkn : k0.s.n = l.length := by
      have := (h.bw.known.each k0 (by rw [hK]; simp)).2
      rw [hkl] at this
      exact this.symm
    have hgT : g ∈ m.T := by rw [hT]; simp
    have hkK : k0 ∈ m.K := by rw [hK]; simp
    have htm := tell_more (Bm.iss { m with n := m.n + 1 } k c c.h c.l 31) 0 1 0 c none U hbw hf hF (T1 := []) (T2 := []) (g := g) (K1 := []) (K2 := []) (k0 := k0) hT hK (by rw [hg0, hk0]) (by rw [hk0]; constructor <;> omega) (fun x hx e => ?_) (by omega)
    · rw [hk0] at htm
      refine htm.mono ?_
      rintro e w' ⟨rfl, kt, s, hkt, hs, hw, hx, hty, hb⟩
      refine ⟨rfl, _, ⟨hw, by show m.n + 1 = _; simp at hn ⊢; omega, hlo, hok, h.i0, .inr ⟨⟨g.p, g.b, g.E ++ [(fmV (frm c), .pointer (some ⟨kt, 0, none⟩))]⟩, ⟨0, s, k0.l ++ [c]⟩, by simp, rfl, rfl, hg0, rfl, by rw [hkl], fun i x hx => ?_, fun x hx => ?_⟩⟩, rfl, ?_, ?_, ?_⟩
      · by_cases hi : i < l.length
        · rw [List.getElem?_append_left hi] at hx
          obtain ⟨kt', hm, ht⟩ := hte i x hx
          refine ⟨kt', List.mem_append.2 (.inl hm), ?_⟩
          have ht1 := ht.but hbV (ht.g h.bw.bx)
          have hVl : Mm V 29 m.bl m.L := h.bw.live.but hbV (g_ne h.bw.dis).1
          have ht2 := ht1.but hbU (ht1.map hVl.out)
          refine ht2.but hb (fun hj => ?_)
          rcases hj with hj | hj | hj
          · exact ht2.map (hbw.told.inn g hgT) hj
          · exact ht2.map hbw.known.out hj
          · exact ht2.row (hbw.known.each k0 hkK).1 hj
        · have hi2 := (List.getElem?_eq_some_iff.1 hx).1
          simp at hi2
          obtain rfl : i = l.length := by omega
          simp at hx
          subst hx
          refine ⟨kt, by simp, ?_⟩
          have : Tyd w' kt (m.n + 1) 1 0 0 c none := hty
          rw [hn] at this
          exact this
      · rcases List.mem_append.1 hx with hx | hx
        · obtain ⟨y, hy, e⟩ := hke x hx
          exact ⟨y, List.mem_append.2 (.inl hy), e⟩
        · simp at hx
          exact ⟨c, by simp, by rw [hx]⟩
      · intro k' hk' j hj
        have hk2 : k' ∈ [⟨0, s, k0.l ++ [c]⟩] := hk'
        simp at hk2
        subst hk2
        exact (hs.2 j hj).imp (fun h => ⟨k0, hkK, h⟩) (fun h => Nat.le_trans (Nat.le_trans hbV.size hbU.size) h)
      · intro j hj
        simp only [Bm.blks, Bm.iss, Bm.rest, hT, List.map_append, List.map_cons, List.map_nil, List.nil_append, List.mem_append, List.mem_cons, List.not_mem_nil, or_false] at hj ⊢
        by_cases e1 : j = k
        · right; omega
        · left
          simp only [e1, or_false, false_or] at hj
          exact hj
      · refine ((hbV.mono (fun j hj => .inl (by subst hj; exact hgm))).trans (hbU.mono (fun j hj => .inl (by subst hj; exact hbl)))).trans (hb.mono (fun j hj => ?_))
        rcases hj with rfl | rfl | hj
        · exact .inl (List.mem_append.2 (.inr (List.mem_append.2 (.inl (List.mem_cons_of_mem _ (List.mem_map.2 ⟨g, hgT, rfl⟩))))))
        · exact .inl hbk
        · exact .inr ⟨k0, hkK, hj⟩
    · obtain ⟨y, hy, e2⟩ := hke x hx
      rw [e] at e2
      obtain ⟨i, hi, rfl⟩ := List.getElem_of_mem hy
      have hyo := h.ok i _ (List.getElem?_eq_getElem hi)
      have := frm_obj hF (decide_eq_true ⟨by omega, by omega⟩) (fmV_inj e2)
      omega
end Go.Proofs.Yticgammbjcdobaa
