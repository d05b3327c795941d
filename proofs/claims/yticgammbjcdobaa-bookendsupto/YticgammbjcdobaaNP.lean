import Derived.Test.YticgammbjcdobaaNN
namespace Go.Proofs.Yticgammbjcdobaa
open Go.RowKit
set_option linter.unusedVariables false
set_option linter.unusedSimpArgs false
/-- A telling in memory, as it was made. -/
abbrev Tyd (w : World) (k : Nat) (s kd b t : Int) (c : Cp) (ah : Option Addr) : Prop := w.heap[k]? = some (Obj.cells (tlL s kd b t c ah).toArray 92)
theorem Tyd.but {S : Nat → Prop} {w w' : World} {k : Nat} {s kd b t : Int} {c : Cp} {ah : Option Addr} (h : Tyd w k s kd b t c ah) (hb : But S w w') (hn : ¬ S k) : Tyd w' k s kd b t c ah := by
  show w'.heap[k]? = _
  rw [hb.block k (Array.getElem?_eq_some_iff.1 h).1 hn]
  exact h
theorem Tyd.lt {w : World} {k : Nat} {s kd b t : Int} {c : Cp} {ah : Option Addr} (h : Tyd w k s kd b t c ah) : k < w.heap.size := (Array.getElem?_eq_some_iff.1 h).1
theorem Tyd.map {w : World} {k : Nat} {s kd b t : Int} {c : Cp} {ah : Option Addr} (h : Tyd w k s kd b t c ah) {tk : TypeId} {bm : Nat} {E : List (Value × Value)} (hm : Mg w tk bm E) : k ≠ bm := fun e => by
  obtain ⟨es, clk, h1, _⟩ := hm.ex
  subst e
  have h' : w.heap[k]? = _ := h
  rw [h1] at h'
  cases h'
theorem Tyd.row {w : World} {k : Nat} {s kd b t : Int} {c : Cp} {ah : Option Addr} (h : Tyd w k s kd b t c ah) {base : Nat} {a : Option Addr} {n cap : Nat} {L : List Value} (ho : Ow w base 31 3 a n cap L) : ¬ Blk a k := fun hk => by
  obtain ⟨x, hx, e1⟩ := hk
  rcases ho.2 with ⟨h1, h2⟩ | ⟨g, cp, cur, hv, hg, hh, r⟩
  · simp only [Value.slice.injEq] at h1
    rw [hx] at h1
    exact absurd h1.1 (by simp)
  · simp only [Value.slice.injEq] at hv
    rw [hx] at hv
    have e2 := Option.some.inj hv.1
    rw [e2] at e1
    simp only at e1
    subst e1
    have h' : w.heap[g]? = _ := h
    rw [hh] at h'
    simp at h'
theorem Tyd.bx {w : World} {k : Nat} {s kd b t : Int} {c : Cp} {ah : Option Addr} (h : Tyd w k s kd b t c ah) : Bx w k (tlL s kd b t c ah) := by
  have h' : w.heap[k]? = some (Obj.cells (tlL s kd b t c ah).toArray 92) := h
  refine ⟨fun j v hv => ?_, fun j hj => ⟨?_, ?_⟩⟩
  · rw [Nat.zero_add]
    simp [World.cell?, h', hv]
  · rw [Nat.zero_add]
    simp [World.cell?, h']
    simpa using hj
  · simp [World.frozen?, h']
theorem leL_inj {a b : Nat} (ha : a < 18446744073709551616) (hb : b < 18446744073709551616) (h : leL a 8 = leL b 8) : a = b := by
  have h1 := valL_leL a 8
  have h2 := valL_leL b 8
  rw [h, h2] at h1
  have e : (256 : Nat) ^ 8 = 18446744073709551616 := by decide
  rw [e, Nat.mod_eq_of_lt ha, Nat.mod_eq_of_lt hb] at h1
  exact h1.symm
theorem frm_obj {c d : Cp} (hc : hasF c = true) (hd : hasF d = true) (h : frm c = frm d) : c.o = d.o := by
  have hc' : 0 ≤ c.o ∧ c.o ≤ 4611686018427387904 := of_decide_eq_true hc
  have hd' : 0 ≤ d.o ∧ d.o ≤ 4611686018427387904 := of_decide_eq_true hd
  unfold frm at h
  have h1 := congrArg (List.take 8) h
  rw [List.append_assoc, List.append_assoc, List.take_left' (by rw [leL_length]), List.take_left' (by rw [leL_length])] at h1
  have := leL_inj (by omega) (by omega) h1
  omega
theorem Tyd.g {w : World} {k : Nat} {s kd b t : Int} {c : Cp} {ah : Option Addr} (h : Tyd w k s kd b t c ah) {m : Bm} (hb : Bx w m.g m.cells) : k ≠ m.g := fun e => by
  have h1 := hb.cell 1 rfl
  have h2 := h.bx.cell 1 rfl
  rw [e, h1] at h2
  simp at h2
/-- A book of creations alone, by process 0: the objects 1, 2, .. in their order. -/
structure Kp (U : World) (m : Bm) (l : List Cp) : Prop where
  bw : Bw U m
  n : m.n = l.length
  lo : ∀ g ∈ m.L, g.p ≤ l.length
  ok : ∀ (i : Nat) c, l[i]? = some c → c.o = (i : Int) + 1 ∧ c.far
  i0 : m.I = []
  tk : (l = [] ∧ m.T = [] ∧ m.K = []) ∨ ∃ g k0, l ≠ [] ∧ m.T = [g] ∧ m.K = [k0] ∧ g.p = 0 ∧ k0.p = 0 ∧ k0.l = l ∧ (∀ (i : Nat) c, l[i]? = some c → ∃ kt, (fmV (frm c), Value.pointer (some ⟨kt, 0, none⟩)) ∈ g.E ∧ Tyd U kt ((i : Int) + 1) 1 0 0 c none) ∧ ∀ x ∈ g.E, ∃ c ∈ l, x.1 = fmV (frm c)
theorem has_of {o : Int} {h l : Nat} (h1 : 1 ≤ o) (h2 : o ≤ 1000) : hasF ⟨o, h, l⟩ = true := decide_eq_true (by constructor <;> simp only <;> omega)
theorem Kp.note {w : World} {m : Bm} {l : List Cp} (h : Kp w m l) (c : Cp) (ho : c.o = (l.length : Int) + 1) (hf : c.far) (hl : l.length < 100) (C : List Value) (hC : C.length = 13) (h0 : C[0]? = some (.int .i64 1)) (h1 : C[1]? = some (.int .i64 0)) (d : Sl) (nu : Int) :
    Calls Try.prog 7 #[.pointer (some ⟨m.g, 0, none⟩), .agg C.toArray, rpV 0 c d nu] w fun e w' => e = .returned (.tuple #[]) ∧ ∃ m', Kp w' m' (l ++ [c]) ∧ m'.g = m.g ∧ (∀ k' ∈ m'.K, ∀ j, Blk k'.s.a j → (∃ k ∈ m.K, Blk k.s.a j) ∨ w.heap.size ≤ j) ∧ (∀ j ∈ m'.blks, j ∈ m.blks ∨ w.heap.size ≤ j) ∧ But (fun j => j ∈ m.blks ∨ ∃ k ∈ m.K, Blk k.s.a j) w w' := by
  have hn := h.n
  have hok : ∀ (i : Nat) x, (l ++ [c])[i]? = some x → x.o = (i : Int) + 1 ∧ x.far := fun i x hx => by
    by_cases hi : i < l.length
    · rw [List.getElem?_append_left hi] at hx
      exact h.ok i x hx
    · have hi2 := (List.getElem?_eq_some_iff.1 hx).1
      simp at hi2
      obtain rfl : i = l.length := by omega
      simp at hx
      subst hx
      exact ⟨ho, hf⟩
  have hF : hasF c = true := decide_eq_true ⟨by omega, by omega⟩
  refine note_create m C 0 nu c d w h.bw hf hC h0 h1 (fun g hg e => by have := h.lo g hg; omega) ⟨by omega, by omega⟩ _ (fun V U k hk hbV hbU hbw => ?_)
  have hbl : m.bl ∈ m.blks := by simp [Bm.blks]
  have hbt : m.bt ∈ m.blks := by simp [Bm.blks]
  have hbk : m.bk ∈ m.blks := by simp [Bm.blks]
  have hgm : m.g ∈ m.blks := by simp [Bm.blks]
  have hlo : ∀ g ∈ (Bm.iss { m with n := m.n + 1 } k c c.h c.l 31).L, g.p ≤ ((l ++ [c]).length : Int) := fun g hg => by
    have hg' : g ∈ m.L ++ [⟨c.o, k, [(wdV c.h c.l, Tn.v ⟨c.h, c.l, c.h, c.l, 31, m.n + 1⟩)]⟩] := hg
    rcases List.mem_append.1 hg' with hg' | hg'
    · have := h.lo g hg'; simp; omega
    · rw [List.mem_singleton.1 hg']; simp; omega
  rcases h.tk with ⟨rfl, hT, hK⟩ | ⟨g, k0, -, hT, hK, hg0, hk0, hkl, hte, hke⟩
  · refine (tell_newk (Bm.iss { m with n := m.n + 1 } k c c.h c.l 31) 0 1 0 0 c none U hbw hf hF (by omega) (fun g hg => by have : g ∈ m.T := hg; rw [hT] at this; cases this) (fun x hx => by have : x ∈ m.K := hx; rw [hK] at this; cases this)).mono ?_
    rintro e w' ⟨rfl, kt, ki, s, hki, hkt, hs, hw, hx, hty, hb⟩
    refine ⟨rfl, _, ⟨hw, by show m.n + 1 = _; simp at hn ⊢; omega, hlo, hok, h.i0, .inr ⟨⟨0, ki, [(fmV (frm c), .pointer (some ⟨kt, 0, none⟩))]⟩, ⟨0, s, [c]⟩, by simp, by show m.T ++ _ = _; rw [hT]; rfl, by show m.K ++ _ = _; rw [hK]; rfl, rfl, rfl, rfl, fun i x hx => ?_, fun x hx => ?_⟩⟩, rfl, ?_, ?_, ?_⟩
    · have hi := (List.getElem?_eq_some_iff.1 hx).1
      simp at hi
      subst hi
      simp at hx
      subst hx
      refine ⟨kt, by simp, ?_⟩
      have e0 : m.n + 1 = ((0 : Nat) : Int) + 1 := by simp at hn; omega
      have : Tyd w' kt (m.n + 1) 1 0 0 c none := hty
      rw [e0] at this
      exact this
    · simp at hx
      exact ⟨c, by simp, by rw [hx]⟩
    · intro k' hk' j hj
      have hk2 : k' ∈ m.K ++ [⟨0, s, [c]⟩] := hk'
      rw [hK] at hk2
      simp at hk2
      subst hk2
      exact .inr (Nat.le_trans (Nat.le_trans hbV.size hbU.size) (hs.2 j hj))
    · intro j hj
      have hUw := Nat.le_trans hbV.size hbU.size
      simp only [Bm.blks, Bm.iss, Bm.rest, List.map_append, List.map_cons, List.map_nil, List.mem_append, List.mem_cons, List.not_mem_nil, or_false] at hj ⊢
      by_cases e1 : j = k
      · right; omega
      · by_cases e2 : j = ki
        · right; omega
        · left
          simp only [e1, e2, or_false, false_or] at hj
          exact hj
    · exact ((hbV.mono (fun j hj => .inl (by subst hj; exact hgm))).trans (hbU.mono (fun j hj => .inl (by subst hj; exact hbl)))).trans (hb.mono (fun j hj => .inl (by rcases hj with rfl | rfl; exact hbt; exact hbk)))
  · have hkn : k0.s.n = l.length := by
      have := (h.bw.known.each k0 (by rw [hK]; simp)).2
      rw [hkl] at this
      exact this.symm
    have hgT : g ∈ m.T := by rw [hT]; simp
    have hkK : k0 ∈ m.K := by rw [hK]; simp
    have htm := tell_more (Bm.iss { m with n := m.n + 1 } k c c.h c.l 31) 0 1 0 c none U hbw hf hF (T1 := []) (T2 := []) (g := g) (K1 := []) (K2 := []) (k0 := k0) hT hK (by rw [hg0, hk0]) (by rw [hk0]; constructor <;> omega) (fun x hx e => ?_) (by omega)
    · rw [hk0] at htm
      refine htm.mono ?_
      rintro e w' ⟨rfl, kt, s, hkt, hs, hw, hx, hty, hb⟩
      refine ⟨rfl, _, ⟨hw, by show m.n + 1 = _; simp at hn ⊢; omega, hlo, hok, h.i0, .inr ⟨⟨g.p, g.b, g.E ++ [(fmV (frm c), .pointer (some ⟨kt, 0, none⟩))]⟩, ⟨0, s, k0.l ++ [c]⟩, by simp, rfl, rfl, hg0, rfl, by rw [hkl], fun i x hx => ?_, fun x hx => ?_⟩⟩, rfl, ?_, ?_, ?_⟩
      · by_cases hi : i < l.length
        · rw [List.getElem?_append_left hi] at hx
          obtain ⟨kt', hm, ht⟩ := hte i x hx
          refine ⟨kt', List.mem_append.2 (.inl hm), ?_⟩
          have ht1 := ht.but hbV (ht.g h.bw.bx)
          have hVl : Mm V 29 m.bl m.L := h.bw.live.but hbV (g_ne h.bw.dis).1
          have ht2 := ht1.but hbU (ht1.map hVl.out)
          refine ht2.but hb (fun hj => ?_)
          rcases hj with hj | hj | hj
          · exact ht2.map (hbw.told.inn g hgT) hj
          · exact ht2.map hbw.known.out hj
          · exact ht2.row (hbw.known.each k0 hkK).1 hj
        · have hi2 := (List.getElem?_eq_some_iff.1 hx).1
          simp at hi2
          obtain rfl : i = l.length := by omega
          simp at hx
          subst hx
          refine ⟨kt, by simp, ?_⟩
          have : Tyd w' kt (m.n + 1) 1 0 0 c none := hty
          rw [hn] at this
          exact this
      · rcases List.mem_append.1 hx with hx | hx
        · obtain ⟨y, hy, e⟩ := hke x hx
          exact ⟨y, List.mem_append.2 (.inl hy), e⟩
        · simp at hx
          exact ⟨c, by simp, by rw [hx]⟩
      · intro k' hk' j hj
        have hk2 : k' ∈ [⟨0, s, k0.l ++ [c]⟩] := hk'
        simp at hk2
        subst hk2
        exact (hs.2 j hj).imp (fun h => ⟨k0, hkK, h⟩) (fun h => Nat.le_trans (Nat.le_trans hbV.size hbU.size) h)
      · intro j hj
        simp only [Bm.blks, Bm.iss, Bm.rest, hT, List.map_append, List.map_cons, List.map_nil, List.nil_append, List.mem_append, List.mem_cons, List.not_mem_nil, or_false] at hj ⊢
        by_cases e1 : j = k
        · right; omega
        · left
          simp only [e1, or_false, false_or] at hj
          exact hj
      · refine ((hbV.mono (fun j hj => .inl (by subst hj; exact hgm))).trans (hbU.mono (fun j hj => .inl (by subst hj; exact hbl)))).trans (hb.mono (fun j hj => ?_))
        rcases hj with rfl | rfl | hj
        · exact .inl (List.mem_append.2 (.inr (List.mem_append.2 (.inl (List.mem_cons_of_mem _ (List.mem_map.2 ⟨g, hgT, rfl⟩))))))
        · exact .inl hbk
        · exact .inr ⟨k0, hkK, hj⟩
    · obtain ⟨y, hy, e2⟩ := hke x hx
      rw [e] at e2
      obtain ⟨i, hi, rfl⟩ := List.getElem_of_mem hy
      have hyo := h.ok i _ (List.getElem?_eq_getElem hi)
      have := frm_obj hF (decide_eq_true ⟨by omega, by omega⟩) (fmV_inj e2)
      omega
theorem Kp.later {w w' : World} {m : Bm} {l : List Cp} (h : Kp w m l) (hb : Below w.heap.size w w') : Kp w' m l := by
  refine ⟨h.bw.later hb, h.n, h.lo, h.ok, h.i0, ?_⟩
  rcases h.tk with h' | ⟨g, k0, hz, h1, h2, h3, h4, h5, h6, h7⟩
  · exact .inl h'
  · refine .inr ⟨g, k0, hz, h1, h2, h3, h4, h5, fun i c hc => ?_, h7⟩
    obtain ⟨kt, hm, ht⟩ := h6 i c hc
    exact ⟨kt, hm, ht.but (S := fun _ => False) (But.of hb) (fun h => h)⟩
theorem Kp.way {w : World} {m : Bm} {l : List Cp} (h : Kp w m l) (hl : l.length < 100) {i : Nat} {c : Cp} (hi : l[i]? = some c) :
    Calls Try.prog 10 #[.pointer (some ⟨m.g, 0, none⟩), .int .i64 0, capV c] w fun e w' => ∃ a' c', e = .returned (.tuple #[.slice a' 1 c', .bool true]) ∧ Ow w' w.heap.size 46 7 a' 1 c' (lkL ((i : Int) + 1) 1 0 0 c) ∧ Below w.heap.size w w' := by
  have hil := (List.getElem?_eq_some_iff.1 hi).1
  obtain ⟨ho, hf⟩ := h.ok i c hi
  rcases h.tk with ⟨rfl, _⟩ | ⟨g, k0, hz, h1, h2, h3, h4, h5, h6, h7⟩
  · simp at hil
  · obtain ⟨kt, hm, ht⟩ := h6 i c hi
    exact way1 m 0 c kt _ 1 0 0 w h.bw hf (decide_eq_true ⟨by omega, by omega⟩) (by constructor <;> omega) ⟨g, by rw [h1]; simp, h3, hm⟩ ht.bx
set_option maxRecDepth 100000 in
set_option maxHeartbeats 2000000 in
theorem known_none (m : Bm) (p : Int) (w : World) (h : Bw w m) (hp : I64 p) (hn : ∀ k ∈ m.K, k.p ≠ p) :
    Calls Try.prog 8 #[.pointer (some ⟨m.g, 0, none⟩), .int .i64 p] w fun e w' => e = .returned (.slice none 0 0) ∧ Below w.heap.size w w' := by
  have HL := hid (h.known_new hp hn ⟨0, 0, 0⟩).1
  have q5 := h.bx.cell 5 rfl
  have HC : Hid (Calls Try.prog 26 #[.slice none 0 0] w fun e w' => e = .returned (.slice none 0 0) ∧ w' = w) := by
    have hnil : (binOp .eql 26 (.slice none 0 0) (.slice none 0 0)).run Try.prog w = .ok (.bool true) w := by kernel_rfl
    unfold Hid
    go_enter Try.func26, Try.ntmps26
    go_wp2
    go_ret
    exact ⟨rfl, rfl⟩
  clear h hn
  go_enter Try.func8, Try.ntmps8
  go_wp2_with (first | ((with_reducible refine look_arm HL.out ?_ ?_ ?_); (· rfl); (· rfl)) | (go_at_call 26; refine HC.out.mono ?_; rintro e w' ⟨rfl, rfl⟩))
  go_ret
  exact ⟨rfl, Below.refl _ _⟩
/-- All that process 0 knows, in new memory. -/
theorem Kp.known {w : World} {m : Bm} {l : List Cp} (h : Kp w m l) (hl : l.length < 100) :
    Calls Try.prog 8 #[.pointer (some ⟨m.g, 0, none⟩), .int .i64 0] w fun e w' => ∃ a' c', e = .returned (.slice a' l.length c') ∧ Ow w' w.heap.size 31 3 a' l.length c' (capsL l) ∧ Below w.heap.size w w' := by
  rcases h.tk with ⟨rfl, hT, hK⟩ | ⟨g, k0, hz, h1, h2, h3, h4, h5, h6, h7⟩
  · refine (known_none m 0 w h.bw (by constructor <;> omega) (fun k hk => by rw [hK] at hk; cases hk)).mono ?_
    rintro e w' ⟨rfl, hb⟩
    exact ⟨none, 0, rfl, Ow.nil _ _ _ _, hb⟩
  · have hk : k0 ∈ m.K := by rw [h2]; simp
    have hkn := (h.bw.known.each k0 hk).2
    rw [h5] at hkn
    have hpos : 0 < l.length := List.length_pos_iff.2 hz
    have := known_hit m k0 w h.bw hk (by omega) (by omega)
    rw [h4, h5, ← hkn] at this
    exact this
theorem stTn {w : World} {b o : Nat} {L : List Value} (h : w.there b o 6) (hl : L.length = 6) (h1 : ∀ v ∈ L, v.oneCell' = true) : (Instr.storeAt 77 (.pointer (some ⟨b, o, none⟩)) (.agg L.toArray)).run Try.prog w = .ok () (w.setCells b o L) :=
  run_storeAt_mid w b o 77 L.toArray (by simpa [hl] using h) (by rw [infoTn]; simp [hl]) (all_oneCell_toArray h1)
theorem lvTn {w : World} {b o : Nat} {L : List Value} (h : w.rangeAt b o L) (hl : L.length = 6) : (loadVar 77 ⟨b, o, none⟩).run Try.prog w = .ok (.agg L.toArray) w :=
  run_loadVar_mid w b o 77 L _ h Try.underlying77 rfl (by rw [infoTn, hl])
theorem Tn.one (t : Tn) : ∀ v ∈ t.L, v.oneCell' = true := by
  intro v hv
  simp only [List.mem_cons, List.not_mem_nil, or_false] at hv
  rcases hv with rfl | rfl | rfl | rfl | rfl | rfl <;> rfl
/-- What stands under an object and a password: a token, or none. -/
def gtT (G : List Im) (p : Int) (h l : Nat) (t : Tn) (ok : Bool) : Prop := Gt G p (wdV h l) (if ok then some t.v else none) ∧ (ok = false → t = tn0)
set_option maxRecDepth 100000 in
set_option maxHeartbeats 2000000 in
theorem lookW_any (b : Nat) (G : List Im) (p : Int) (hi lo : Nat) (t : Tn) (ok : Bool) (w : World) (h : Mm w 29 b G) (hp : I64 p) (h1 : U64 hi) (h2 : U64 lo) (hr : gtT G p hi lo t ok) :
    Calls Try.prog 32 #[.map (some b), .int .i64 p, wdV hi lo] w fun e w' => e = .returned (.tuple #[t.v, .bool ok]) ∧ Below w.heap.size w w' := by
  obtain ⟨W, hW⟩ : ∃ W, W = (w.alloc (Obj.cells #[.int .u64 (hi : Int), .int .u64 (lo : Int)] 29)).alloc (Obj.cells #[.int .u64 0, .int .u64 0, .int .u64 0, .int .u64 0, .int .i64 0, .int .i64 0] 77) := ⟨_, rfl⟩
  have hB : Below w.heap.size w W := by rw [hW]; exact below2 _ _ _
  have HLD : Hid ((Instr.loadAt 29 (.pointer (some ⟨w.heap.size, 0, none⟩))).run Try.prog W = .ok (wdV hi lo) W) := by rw [hW]; exact ldWd ((Bx.new w [.int .u64 (hi : Int), .int .u64 (lo : Int)] _).later (below1 _ _)).range rfl
  have HX1 : Hid (Bx W (w.heap.size + 1) tn0.L) := by rw [hW]; have := Bx.new (w.alloc (Obj.cells #[.int .u64 (hi : Int), .int .u64 (lo : Int)] 29)) tn0.L 77; simp at this; exact this
  obtain ⟨m, -, r1, r2⟩ := (h.later hB).look wkey Try.underlying60 Try.underlying82 zLive zTok hp (kword h1 h2) hr.1
  have e2 : (if ok then some t.v else none).getD tk0 = t.v ∧ (if ok then some t.v else none).isSome = ok := by
    cases ok with
    | true => exact ⟨rfl, rfl⟩
    | false => rw [hr.2 rfl]; exact ⟨rfl, rfl⟩
  rw [e2.1, e2.2] at r2
  obtain ⟨V, hV⟩ : ∃ V, V = W.alloc (Obj.cells #[.int .u64 (t.h : Int), .int .u64 (t.l : Int), .int .u64 (t.ph : Int), .int .u64 (t.pl : Int), .int .i64 t.r, .int .i64 t.s] 77) := ⟨_, rfl⟩
  have hBV : Below W.heap.size W V := by rw [hV]; exact below1 _ _
  have HLT : Hid ((Instr.loadAt 77 (.pointer (some ⟨W.heap.size, 0, none⟩))).run Try.prog V = .ok t.v V) := by rw [hV]; exact ldTn (Bx.new W t.L _).range rfl
  have hx1 := HX1.out.later hBV
  have HST := hid (stTn (L := t.L) (by have := hx1.there; exact this) rfl t.one)
  have hx3 := hx1.set (M := t.L) rfl
  have hlv := lvTn hx3.range rfl
  have HF : Hid (Below w.heap.size w (V.setCells (w.heap.size + 1) 0 t.L)) := But.below (below_call hB hBV) (setCells_but (S := (· = w.heap.size + 1)) rfl t.L 0 (But.refl _ _)) (fun k hk => by omega)
  have H1 := hid r1
  have H2 := hid r2
  have HW := hid hW
  have HV := hid hV
  obtain ⟨th, tl, tph, tpl, tr, ts⟩ := t
  simp only at H2 HLT HST HV hlv HF
  clear r1 r2 hW hB h hr hx1 hx3 hV hBV e2
  go_enter Try.func32, Try.ntmps32
  go_upto_region 1 with fail
  rw [← HW.out]
  go_upto_region 2 with (first | ((with_reducible refine look_arm H1.out ?_ ?_ ?_); (· rfl); (· rfl)) | ((with_reducible refine look_arm H2.out ?_ ?_ ?_); (· rfl); (· rfl)) | ((with_reducible refine ld_arm HLD.out ?_ ?_); (· rfl)))
  rw [← HV.out]
  go_wp2_with (first | ((with_reducible refine ld_arm HLT.out ?_ ?_); (· rfl)) | ((with_reducible refine st_arm HST.out ?_ ?_ ?_); (· rfl); (· rfl)))
  exact bodyPost_ret (v := .tuple #[Tn.v ⟨th, tl, tph, tpl, tr, ts⟩, .bool ok]) (by simp [results, Try.results32, asAddr, Act.put, hlv]) rfl ⟨rfl, HF.out⟩
theorem bi_ne {m : Bm} (hd : m.blks.Nodup) : (∀ i ∈ m.bl :: m.L.map Im.b, i ≠ m.bi) ∧ (∀ i ∈ m.bt :: m.T.map Im.b, i ≠ m.bi) ∧ m.g ≠ m.bi ∧ m.bk ≠ m.bi ∧ ∀ i ∈ m.ba :: m.A.map Im.b, i ≠ m.bi := by
  have h1 := List.nodup_append.1 hd
  have h2 := List.nodup_append.1 h1.2.1
  have h3 := List.nodup_cons.1 h2.2.1
  have h4 := List.nodup_cons.1 h3.2
  refine ⟨fun i hi e => h1.2.2 i hi m.bi (by simp) e, fun i hi e => h2.2.2 i hi m.bi (by simp) e, fun e => h3.1 (by rw [e]; simp), fun e => h4.1 (by rw [← e]; simp), fun i hi e => h4.1 (by rw [← e]; exact List.mem_cons_of_mem _ hi)⟩
theorem Bw.lists_new {w : World} {m : Bm} (h : Bw w m) {p : Int} (hp : I64 p) (hn : ∀ k ∈ m.I, k.p ≠ p) (c : Cp) :
    (Instr.lookup 61 (.map (some m.bi)) (.int .i64 p) false).run Try.prog w = .ok (.slice none 0 0) w ∧
    ∃ a' c' w7 w8, (Builtin.append_ #[26, 26] 26 #[.slice none 0 0, .slice (some ⟨w.heap.size, 0, none⟩) 1 1]).run Try.prog (w.alloc (Obj.cells #[.int .i64 c.o, .int .u64 (c.h : Int), .int .u64 (c.l : Int)] 31)) = .ok (.slice a' 1 c') w7 ∧
      (Instr.mapUpdate 61 (.map (some m.bi)) (.int .i64 p) (.slice a' 1 c')).run Try.prog w7 = .ok () w8 ∧ Bw w8 { m with I := m.I ++ [⟨p, ⟨a', 1, c'⟩, [c]⟩] } ∧ But (· = m.bi) w w8 ∧ Below w.heap.size w w7 ∧ ∀ j, Blk a' j → w.heap.size ≤ j := by
  have hmk : ∀ x ∈ m.I.map (fun k => (Value.int .i64 k.p, Value.slice k.s.a k.s.n k.s.c)), x.1 ≠ Value.int .i64 p := fun x hx => by
    obtain ⟨k, hk, rfl⟩ := List.mem_map.1 hx
    intro e
    simp at e
    exact hn k hk e
  have hgl : m.g < w.heap.size := h.lo m.g (by simp)
  refine ⟨h.lists.out.miss ikey Try.underlying61 (kint hp) hmk (zCaps w) false, ?_⟩
  obtain ⟨a', c', w7, r7, o7, b7, n7⟩ := ow_snoc 26 31 _ 3 24 Try.underlying26 infoC3 rfl (by omega) (w := w) (base := m.g + 1) (cs := [.int .i64 c.o, .int .u64 (c.h : Int), .int .u64 (c.l : Int)]) (Ow.nil w (m.g + 1) _ _) rfl (one3 _ _ _) (by omega) (by omega) (by omega)
  have hB7 : Below w.heap.size w w7 := But.below (Below.refl _ _) b7 (fun k hk => by obtain ⟨x, hx, _⟩ := hk; cases hx)
  have hw7 := h.later hB7
  obtain ⟨w8, r8, m8, b8, s8⟩ := hw7.lists.out.add ikey Try.underlying61 (kint hp) hmk (.slice a' 1 c')
  obtain ⟨n1, n2, n3, n4, n5⟩ := bi_ne h.dis
  have hnew : ∀ j, Blk a' j → w.heap.size ≤ j := fun j hj => by
    rcases n7 j hj with ⟨x, hx, _⟩ | h'
    · cases hx
    · exact h'
  have ho8 : Ow w8 (m.g + 1) 31 3 a' 1 c' (capsL [c]) := by
    have : Ow w7 (m.g + 1) 31 3 a' 1 c' (capsL [c]) := by simpa [capsL, encC] using o7
    exact this.but b8 (fun j hj e => hw7.cells this (by omega) j hj (by subst e; simp [Bm.blks]))
  have hk8 : ∀ k ∈ m.I, Ow w8 (m.g + 1) 31 3 k.s.a k.s.n k.s.c (capsL k.l) := fun k hk => (hw7.lists.each k hk).1.but b8 (fun j hj e => hw7.cells (hw7.lists.each k hk).1 (by omega) j hj (by subst e; simp [Bm.blks]))
  refine ⟨a', c', w7, w8, by simpa using r7, r8, ⟨hw7.bx.but b8 n3, hw7.live.but b8 n1, hw7.laid.but b8 n5, hw7.told.but b8 n2, ⟨by rw [List.map_append]; exact m8, fun k hk => ?_, ?_⟩, hw7.known.map hw7.lists.out b8 n4, h.dis, fun j hj => Nat.lt_of_lt_of_le (hw7.lo j hj) b8.size, fun y hy x hx j hj2 hj => ?_⟩, (But.of hB7).trans b8, hB7, hnew⟩
  · rcases List.mem_append.1 hk with hk | hk
    · exact ⟨hk8 k hk, (h.lists.each k hk).2⟩
    · rw [List.mem_singleton.1 hk]
      exact ⟨ho8, rfl⟩
  · show (m.I ++ [_]).Pairwise _
    rw [List.pairwise_append]
    refine ⟨h.lists.dis, List.pairwise_singleton _ _, fun x hx y hy j hj hj2 => ?_⟩
    rw [List.mem_singleton.1 hy] at hj2
    have h1 := ((h.lists.each x hx).1.blk j hj).2
    have h2 := hnew j hj2
    omega
  · rcases List.mem_append.1 hy with hy | hy
    · exact h.ap y hy x hx j hj2 hj
    · rw [List.mem_singleton.1 hy] at hj2
      have h1 := ((h.known.each x hx).1.blk j hj).2
      have h2 := hnew j hj2
      omega
/-- .. one more. -/
theorem Bw.lists_more {w : World} {m : Bm} (h : Bw w m) {K1 K2 : List Kn} {k0 : Kn} (hK : m.I = K1 ++ k0 :: K2) (hl : k0.s.n + 1 ≤ 100000) (c : Cp) :
    (Instr.lookup 61 (.map (some m.bi)) (.int .i64 k0.p) false).run Try.prog w = .ok (.slice k0.s.a k0.s.n k0.s.c) w ∧
    ∃ a' c' w7 w8, (Builtin.append_ #[26, 26] 26 #[.slice k0.s.a k0.s.n k0.s.c, .slice (some ⟨w.heap.size, 0, none⟩) 1 1]).run Try.prog (w.alloc (Obj.cells #[.int .i64 c.o, .int .u64 (c.h : Int), .int .u64 (c.l : Int)] 31)) = .ok (.slice a' (k0.s.n + 1) c') w7 ∧
      (Instr.mapUpdate 61 (.map (some m.bi)) (.int .i64 k0.p) (.slice a' (k0.s.n + 1) c')).run Try.prog w7 = .ok () w8 ∧ Bw w8 { m with I := K1 ++ ⟨k0.p, ⟨a', k0.s.n + 1, c'⟩, k0.l ++ [c]⟩ :: K2 } ∧ But (fun j => j = m.bi ∨ Blk k0.s.a j) w w8 ∧ But (Blk k0.s.a) w w7 ∧ ∀ j, Blk a' j → Blk k0.s.a j ∨ w.heap.size ≤ j := by
  have hk0 : k0 ∈ m.I := by rw [hK]; simp
  have hgl : m.g < w.heap.size := h.lo m.g (by simp)
  have hmem : (Value.int .i64 k0.p, Value.slice k0.s.a k0.s.n k0.s.c) ∈ m.I.map (fun k => (Value.int .i64 k.p, Value.slice k.s.a k.s.n k.s.c)) := List.mem_map.2 ⟨k0, hk0, rfl⟩
  refine ⟨h.lists.out.hit ikey Try.underlying61 hmem false, ?_⟩
  obtain ⟨ho0, hln⟩ := h.lists.each k0 hk0
  obtain ⟨a', c', w7, r7, o7, b7, n7⟩ := ow_snoc 26 31 _ 3 24 Try.underlying26 infoC3 rfl (by omega) (cs := [.int .i64 c.o, .int .u64 (c.h : Int), .int .u64 (c.l : Int)]) ho0 rfl (one3 _ _ _) (by omega) hl (by omega)
  have hc0 := h.cells ho0 (by omega)
  have hS : ∀ i ∈ m.blks, ¬ Blk k0.s.a i := fun i hi hb => hc0 i hb hi
  obtain ⟨n1, n2, n3, n4, n5⟩ := bi_ne h.dis
  have bx7 := h.bx.but b7 (hS _ (by simp [Bm.blks]))
  have live7 := h.live.but b7 (fun j hj => hS j (List.mem_append.2 (.inl hj)))
  have laid7 := h.laid.but b7 (fun j hj => hS j (List.mem_append.2 (.inr (List.mem_append.2 (.inr (rest_a hj))))))
  have told7 := h.told.but b7 (fun j hj => hS j (List.mem_append.2 (.inr (List.mem_append.2 (.inl hj)))))
  have kout7 := h.lists.out.but b7 (hS _ (by simp [Bm.blks]))
  have lout7 := h.known.out.but b7 (hS _ (by simp [Bm.blks]))
  have ho7 : Ow w7 (m.g + 1) 31 3 a' (k0.s.n + 1) c' (capsL (k0.l ++ [c])) := by simpa [capsL, encC] using o7
  have hI7 : ∀ x ∈ m.K, Ow w7 (m.g + 1) 31 3 x.s.a x.s.n x.s.c (capsL x.l) := fun x hx => (h.known.each x hx).1.but b7 (fun j hj hj2 => h.ap k0 hk0 x hx j hj2 hj)
  have hdis := h.lists.dis
  rw [hK, List.pairwise_append, List.pairwise_cons] at hdis
  have hK1 : ∀ x ∈ K1, ∀ j, Blk x.s.a j → ¬ Blk k0.s.a j := fun x hx j hj => hdis.2.2 x hx k0 List.mem_cons_self j hj
  have hK2 : ∀ x ∈ K2, ∀ j, Blk x.s.a j → ¬ Blk k0.s.a j := fun x hx j hj hj2 => hdis.2.1.1 x hx j hj2 hj
  have hin1 : ∀ x ∈ K1, x ∈ m.I := fun x hx => by rw [hK]; simp [hx]
  have hin2 : ∀ x ∈ K2, x ∈ m.I := fun x hx => by rw [hK]; simp [hx]
  have hR1 : ∀ x ∈ K1, Ow w7 (m.g + 1) 31 3 x.s.a x.s.n x.s.c (capsL x.l) := fun x hx => (h.lists.each x (hin1 x hx)).1.but b7 (fun j hj hj2 => hK1 x hx j hj hj2)
  have hR2 : ∀ x ∈ K2, Ow w7 (m.g + 1) 31 3 x.s.a x.s.n x.s.c (capsL x.l) := fun x hx => (h.lists.each x (hin2 x hx)).1.but b7 (fun j hj hj2 => hK2 x hx j hj hj2)
  have hmap : ∀ {a : Option Addr} {n cap : Nat} {L : List Value}, Ow w7 (m.g + 1) 31 3 a n cap L → ¬ Blk a m.bi := fun {a} {n} {cap} {L} ho => by
    obtain ⟨es, clk, h1, _⟩ := kout7.ex
    exact map_ne h1 ho
  obtain ⟨w8, r8, m8, b8, s8⟩ := kout7.set ikey Try.underlying61 hmem (.slice a' (k0.s.n + 1) c')
  have e8 : upE (m.I.map (fun k => (Value.int .i64 k.p, Value.slice k.s.a k.s.n k.s.c))) (.int .i64 k0.p) (.slice a' (k0.s.n + 1) c') = (K1 ++ (⟨k0.p, ⟨a', k0.s.n + 1, c'⟩, k0.l ++ [c]⟩ : Kn) :: K2).map (fun k => (Value.int .i64 k.p, Value.slice k.s.a k.s.n k.s.c)) := by
    have hnd := h.lists.out.nd
    rw [hK, List.map_append, List.map_cons] at hnd ⊢
    rw [upE_at hnd]
    simp
  rw [e8] at m8
  have to8 : ∀ {a : Option Addr} {n cap : Nat} {L : List Value}, Ow w7 (m.g + 1) 31 3 a n cap L → Ow w8 (m.g + 1) 31 3 a n cap L := fun ho => ho.but b8 (fun j hj e => hmap ho (by subst e; exact hj))
  have hnew : ∀ j, Blk a' j → Blk k0.s.a j ∨ w.heap.size ≤ j := n7
  have apart : ∀ x : Kn, (∀ j, Blk x.s.a j → j < w.heap.size) → (∀ j, Blk x.s.a j → ¬ Blk k0.s.a j) → ∀ j, Blk x.s.a j → ¬ Blk a' j := fun x h1 h2 j hj hj2 => by
    rcases hnew j hj2 with h3 | h3
    · exact h2 j hj h3
    · have := h1 j hj; omega
  refine ⟨a', c', w7, w8, r7, r8, ⟨bx7.but b8 n3, live7.but b8 n1, laid7.but b8 n5, told7.but b8 n2, ⟨m8, fun x hx => ?_, ?_⟩, ⟨lout7.but b8 n4, fun x hx => ⟨to8 (hI7 x hx), (h.known.each x hx).2⟩, h.known.dis⟩, h.dis, fun j hj => Nat.lt_of_lt_of_le (h.lo j hj) (Nat.le_trans b7.size b8.size), fun y hy x hx j hj2 hj => ?_⟩, (b7.mono (fun j hj => .inr hj)).trans (b8.mono (fun j hj => .inl hj)), b7, hnew⟩
  · rcases List.mem_append.1 hx with hx | hx
    · exact ⟨to8 (hR1 x hx), (h.lists.each x (hin1 x hx)).2⟩
    · rcases List.mem_cons.1 hx with rfl | hx
      · exact ⟨to8 ho7, by simp [hln]⟩
      · exact ⟨to8 (hR2 x hx), (h.lists.each x (hin2 x hx)).2⟩
  · show (K1 ++ _ :: K2).Pairwise _
    rw [List.pairwise_append, List.pairwise_cons]
    refine ⟨hdis.1, ⟨fun y hy j hj hj2 => ?_, hdis.2.1.2⟩, fun x hx y hy j hj hj2 => ?_⟩
    · exact apart y (fun j hj => ((h.lists.each y (hin2 y hy)).1.blk j hj).2) (hK2 y hy) j hj2 hj
    · rcases List.mem_cons.1 hy with rfl | hy
      · exact apart x (fun j hj => ((h.lists.each x (hin1 x hx)).1.blk j hj).2) (hK1 x hx) j hj hj2
      · exact hdis.2.2 x hx y (List.mem_cons_of_mem _ hy) j hj hj2
  · rcases List.mem_append.1 hy with hy | hy
    · exact h.ap y (hin1 y hy) x hx j hj2 hj
    · rcases List.mem_cons.1 hy with rfl | hy
      · exact apart x (fun j hj => ((h.known.each x hx).1.blk j hj).2) (fun j hj hj2 => h.ap k0 hk0 x hx j hj2 hj) j hj hj2
      · exact h.ap y (hin2 y hy) x hx j hj2 hj
end Go.Proofs.Yticgammbjcdobaa
