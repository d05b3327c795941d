import Derived.Test.YtejkbeeffllpfaaF1
namespace Go.Proofs.Ytejkbeeffllpfaa
open Go.RowKit
set_option linter.unusedVariables false
set_option linter.unusedSimpArgs false

/-- A list of lists, of which those from p on may be lengthened. -/
structure Sg (w : World) (base : Nat) (col : Nat → Nat) (e te : TypeId) (co ci : Nat) (a : Option Addr) (n cap : Nat) (T : Nat → Sl) (V : Nat → List Value) (p : Nat) : Prop where
  ou : Own w base te a n cap ((List.range n).map fun i => sv (T i))
  ko : ∀ k, Blk a k → col k = co
  rd : ∀ i, i < n → Row w (T i).1 (T i).2.1 (T i).2.2 (V i)
  inn : ∀ i, p ≤ i → i < n → Own w base e (T i).1 (T i).2.1 (T i).2.2 (V i)
  ki : ∀ i, i < n → ∀ k, Blk (T i).1 k → col k = ci + i
theorem Sg.but {S : Nat → Prop} {w w' : World} {base : Nat} {col : Nat → Nat} {e te : TypeId} {co ci : Nat} {a : Option Addr} {n cap : Nat} {T : Nat → Sl} {V : Nat → List Value} {p : Nat} (hb : But S w w') (h : Sg w base col e te co ci a n cap T V p) (h1 : ∀ k, col k = co → ¬ S k) (h2 : ∀ i, i < n → ∀ k, col k = ci + i → ¬ S k) : Sg w' base col e te co ci a n cap T V p :=
  ⟨h.ou.but hb (fun k hk => h1 k (h.ko k hk)), h.ko, fun i hi => (h.rd i hi).but hb (fun k hk => h2 i hi k (h.ki i hi k hk)), fun i hp hi => (h.inn i hp hi).but hb (fun k hk => h2 i hi k (h.ki i hi k hk)), h.ki⟩
theorem Sg.later {w w' : World} {base : Nat} {col : Nat → Nat} {e te : TypeId} {co ci : Nat} {a : Option Addr} {n cap : Nat} {T : Nat → Sl} {V : Nat → List Value} {p : Nat} (hb : Below w.heap.size w w') (h : Sg w base col e te co ci a n cap T V p) : Sg w' base col e te co ci a n cap T V p :=
  h.but (S := fun _ => False) (But.of hb) (fun _ _ h => h) (fun _ _ _ _ h => h)
theorem Sg.recol {w : World} {base : Nat} {col : Nat → Nat} {e te : TypeId} {co ci : Nat} {a : Option Addr} {n cap : Nat} {T : Nat → Sl} {V : Nat → List Value} {p : Nat} {col' : Nat → Nat} (h : Sg w base col e te co ci a n cap T V p) (hc : ∀ k, col k ≠ 0 → col' k = col k) (h1 : co ≠ 0) (h2 : ci ≠ 0) : Sg w base col' e te co ci a n cap T V p :=
  ⟨h.ou, fun k hk => by have := h.ko k hk; rw [hc k (by omega)]; exact this, h.rd, h.inn, fun i hi k hk => by have := h.ki i hi k hk; rw [hc k (by omega)]; exact this⟩
theorem Sf.sg {w : World} {base : Nat} {col : Nat → Nat} {e te : TypeId} {co ci : Nat} {a : Option Addr} {n cap : Nat} {T : Nat → Sl} {V : Nat → List Value} (h : Sf w base col e te co ci a n cap T V) : Sg w base col e te co ci a n cap T V 0 := ⟨h.ou, h.ko, fun i hi => (h.inn i hi).read, fun i _ hi => h.inn i hi, h.ki⟩
theorem Sg.cell {w : World} {base : Nat} {col : Nat → Nat} {e te : TypeId} {co ci : Nat} {a : Option Addr} {n cap : Nat} {T : Nat → Sl} {V : Nat → List Value} {p : Nat} (h : Sg w base col e te co ci a n cap T V p) {i : Nat} (hi : i < n) : ∃ g, a = some ⟨g, 0, none⟩ ∧ ∀ x l c, T i = (x, l, c) → w.cell? ⟨g, i, none⟩ = some (.slice x l c) := by
  obtain ⟨g, rfl, _⟩ := h.ou.spot (by omega)
  refine ⟨g, rfl, fun x l c hT => ?_⟩
  have h1 := h.ou.read.cells _ rfl i (sv (T i)) (by simp [hi])
  rw [addr_add0, hT] at h1
  exact h1
theorem upd_self {X : Type} (f : Nat → X) (n : Nat) : upd f n (f n) = f := by
  funext i
  by_cases e : i = n
  · subst e; exact upd_same _ _ _
  · exact upd_old _ _ e
/-- A list is lengthened by one; what it read it still reads. -/
theorem append_keep (t e : TypeId) (z : Value) (by_ : Nat) (hu : Try.prog.underlying t = some (.slice e)) (hinf : (Try.prog.info? e).map (fun i => (i.zero, i.size, i.bytes)) = some (some z, 1, by_)) (hzs : z.cells.size = 1)
    {w : World} {base : Nat} {a : Option Addr} {n cap : Nat} {L : List Value} (v : Value) (hv : v.oneCell' = true) (h : Own w base e a n cap L) (hb : base ≤ w.heap.size) (hr : (n + 1) * by_ ≤ 140737488355328) (hr2 : n + 1 ≤ 140737488355328) :
    ∃ a' cap' w', (Builtin.append_ #[t, t] t #[.slice a n cap, .slice (some ⟨w.heap.size, 0, none⟩) 1 1]).run Try.prog (w.alloc (Obj.cells #[v] e)) = .ok (.slice a' (n + 1) cap') w' ∧ Own w' base e a' (n + 1) cap' (L ++ [v]) ∧ Gr a a' w w' ∧ Row w' a n cap L := by
  have hL := h.len
  cases a with
  | none =>
    obtain ⟨a', cap', w', hrun, hO, hG⟩ := append_gen t e z by_ hu hinf hzs (h.alloc (Obj.cells #[v] e)) (Row.single w e v hv) (by simp; omega) hr hr2
    have hn := h.read.none_ rfl
    obtain rfl : L = [] := List.eq_nil_of_length_eq_zero (by omega)
    obtain ⟨rfl, rfl⟩ := hn
    exact ⟨a', cap', w', hrun, hO, hG.pre (below1 w (Obj.cells #[v] e)), row_nil _⟩
  | some q =>
    obtain ⟨g, rfl⟩ : ∃ g, q = ⟨g, 0, none⟩ := by
      rcases h.row.2 with ⟨h1, _⟩ | ⟨gb, c, cur, hv, _⟩
      · simp at h1
      · simp only [Value.slice.injEq, Option.some.injEq] at hv
        exact ⟨gb, hv.1⟩
    have hc := h.read.cap_
    by_cases hnc : n = cap
    · subst hnc
      obtain ⟨g', cap', w', hrun, hO, hB⟩ := append_full_gen t e z by_ hu hinf hzs (h.read.alloc (Obj.cells #[v] e)) (Row.single w e v hv) (by omega) hr hr2
      have hge : ∀ k, Blk (some ⟨g', 0, none⟩) k → w.heap.size ≤ k := fun k hk => by
        have := hO.blk k hk
        simp at this
        omega
      exact ⟨_, cap', w', hrun, hO.mono (by simp; omega), ⟨But.of (below_call (below1 _ _) hB), fun k hk => .inr (hge k hk)⟩, h.read.later (below_call (below1 _ _) hB)⟩
    · obtain ⟨i, hi, hz0, hz1, hz2⟩ := info_parts hinf
      have ha := h.alloc (Obj.cells #[v] e)
      obtain ⟨w', hrun, hO, hg⟩ := run_append_fits (P := Try.prog) (w.alloc (Obj.cells #[v] e)) base t t e i 1 hu hi hz1 g n cap _ ha.row ⟨w.heap.size, 0, none⟩ 1 1 [v] rfl ((Row.single w e v hv).cells _ rfl) (by simp [hv]) (by omega)
      have hB : But (Blk (some ⟨g, 0, none⟩)) (w.alloc (Obj.cells #[v] e)) w' := ⟨hg.os, hg.tape, hg.output, hg.size, fun k hk hn => hg.block k hk (fun e => hn ⟨_, rfl, by simpa using e.symm⟩)⟩
      have hO2 : Own w' base e (some ⟨g, 0, none⟩) (n + 1) cap (L ++ [v]) := ⟨hO, fun u hu => by
        rcases List.mem_append.1 hu with h1 | h1
        · exact h.one u h1
        · simp only [List.mem_singleton] at h1; subst h1; exact hv⟩
      refine ⟨_, cap, w', hrun, hO2, ⟨(But.of (below1 _ _)).trans hB, fun k hk => .inl hk⟩, ?_⟩
      have := hO2.read.sub (m := n) (c := cap) (by omega) hc (fun e => by cases e)
      rw [List.take_left' hL] at this
      exact this
/-- What the law keeps while it lengthens. -/
structure Bv (wp w : World) (col : Nat → Nat) (aI : Option Addr) (L cI : Nat) (ids : List Int) (aR : Option Addr) (nR cR : Nat) (T : Nat → Sl) (V : Nat → List Value) (p : Nat) (aL : Option Addr) (nL cL : Nat) (T2 : Nat → Sl) (V2 : Nat → List Value) (q : Nat) (aG : Option Addr) (cG : Nat) (U : Nat → Sl) (aM : Option Addr) (cM : Nat) (U2 : Nat → Sl) : Prop where
  bel : Below wp.heap.size wp w
  cb : Cb w wp.heap.size col
  idr : Own w wp.heap.size 3 aI L cI (ints ids)
  kI : ∀ k, Blk aI k → col k = 1
  rows : Sg w wp.heap.size col 5 30 2 100 aR nR cR T V p
  lists : Sg w wp.heap.size col 3 28 3 1000 aL nL cL T2 V2 q
  long : Sf w wp.heap.size col 5 30 4 100 aG p cG U (fun i => V i ++ [mR i])
  more : Sf w wp.heap.size col 3 28 5 1000 aM q cM U2 (fun i => V2 i ++ [mL i])
theorem Bu.bv {wp w : World} {col : Nat → Nat} {aI : Option Addr} {L cI : Nat} {ids : List Int} {aR : Option Addr} {nR cR : Nat} {T : Nat → Sl} {V : Nat → List Value} {aL : Option Addr} {nL cL : Nat} {T2 : Nat → Sl} {V2 : Nat → List Value} (h : Bu wp w col aI L cI ids aR nR cR T V aL nL cL T2 V2) (U U2 : Nat → Sl) : Bv wp w col aI L cI ids aR nR cR T V 0 aL nL cL T2 V2 0 none 0 U none 0 U2 :=
  ⟨h.bel, h.cb, h.idr, h.kI, h.rows.sg, h.lists.sg, Sf.nil _ _ _ _ _ _ _ _ _, Sf.nil _ _ _ _ _ _ _ _ _⟩
theorem Bv.addLong {wp wr : World} {col : Nat → Nat} {aI : Option Addr} {L cI : Nat} {ids : List Int} {aR : Option Addr} {nR cR : Nat} {T : Nat → Sl} {V : Nat → List Value} {p : Nat} {aL : Option Addr} {nL cL : Nat} {T2 : Nat → Sl} {V2 : Nat → List Value} {q : Nat} {aG : Option Addr} {cG : Nat} {U : Nat → Sl} {aM : Option Addr} {cM : Nat} {U2 : Nat → Sl} (h : Bv wp wr col aI L cI ids aR nR cR T V p aL nL cL T2 V2 q aG cG U aM cM U2) (hp : p < nR) (hnR : nR ≤ 800) (hnL : nL ≤ 800) (hqn : p ≤ nR ∧ q ≤ nL) {x : Option Addr} {li ca : Nat} (hT : T p = (x, li, ca)) (hli : li ≤ 4096) :
    ∃ a1 c1 w2 ag cg w3 col', (Builtin.append_ #[30, 30] 30 #[.slice x li ca, .slice (some ⟨wr.heap.size, 0, none⟩) 1 1]).run Try.prog (wr.alloc (Obj.cells #[mR p] 5)) = .ok (.slice a1 (li + 1) c1) w2 ∧ (Builtin.append_ #[29, 29] 29 #[.slice aG p cG, .slice (some ⟨w2.heap.size, 0, none⟩) 1 1]).run Try.prog (w2.alloc (Obj.cells #[.slice a1 (li + 1) c1] 30)) = .ok (.slice ag (p + 1) cg) w3 ∧ Bv wp w3 col' aI L cI ids aR nR cR T V (p + 1) aL nL cL T2 V2 q ag cg (upd U p (a1, li + 1, c1)) aM cM U2 := by
  have h1 := h.rows.inn p (Nat.le_refl _) hp
  rw [hT] at h1
  have hkx := h.rows.ki p hp
  rw [hT] at hkx
  simp only at h1 hkx
  obtain ⟨a1, c1, w2, hrun, hO, hG, hR⟩ := append_keep 30 5 _ 1 Try.underlying30 info5 rfl (mR p) rfl h1 h.cb.hb (by omega) (by omega)
  have hB : But (fun k => col k = 100 + p) wr w2 := hG.but.mono (fun k hk => hkx k hk)
  have cb2 := h.cb.paint hB.size (100 + p)
  have kp : ∀ k, col k ≠ 0 → paint wr w2 (100 + p) col k = col k := fun k hk => h.cb.keep _ _ hk
  have hk1 : ∀ k, Blk a1 k → paint wr w2 (100 + p) col k = 100 + p := fun k hk => by
    rcases hG.on k hk with h2 | h2
    · have h3 := hkx k h2
      rw [kp k (by omega)]
      exact h3
    · exact paint_new h2 (hO.lt k hk)
  have bel2 : Below wp.heap.size wp w2 := below_but h.bel h.cb (by omega) hB
  have idr2 := h.idr.but hB (fun k hk e => by have := h.kI k hk; omega)
  have rows2 : Sg w2 wp.heap.size col 5 30 2 100 aR nR cR T V (p + 1) := by
    refine ⟨h.rows.ou.but hB (fun k hk e => by have := h.rows.ko k hk; omega), h.rows.ko, fun i hi => ?_, fun i hpi hi => (h.rows.inn i (by omega) hi).but hB (fun k hk e => by have := h.rows.ki i hi k hk; omega), h.rows.ki⟩
    by_cases ei : i = p
    · subst ei
      rw [hT]
      exact hR
    · exact (h.rows.rd i hi).but hB (fun k hk e => by have := h.rows.ki i hi k hk; omega)
  have lists2 := h.lists.but hB (fun k e1 e2 => by omega) (fun i hi k e1 e2 => by omega)
  have long2 := h.long.but hB (fun k e1 e2 => by omega) (fun i hi k e1 e2 => by omega)
  have more2 := h.more.but hB (fun k e1 e2 => by omega) (fun i hi k e1 e2 => by omega)
  obtain ⟨col1, hc1⟩ : ∃ c, c = paint wr w2 (100 + p) col := ⟨_, rfl⟩
  rw [← hc1] at cb2 kp hk1
  have kI2 : ∀ k, Blk aI k → col1 k = 1 := fun k hk => by have h4 := h.kI k hk; rw [kp k (by omega)]; exact h4
  have rows3 := rows2.recol kp (by decide) (by decide)
  have lists3 := lists2.recol kp (by decide) (by decide)
  have long3 := long2.recol kp (by decide) (by decide)
  have more3 := more2.recol kp (by decide) (by decide)
  have hbu : Below w2.heap.size w2 (w2.alloc (Obj.cells #[.slice a1 (li + 1) c1] 30)) := below1 _ _
  have hx : Row (w2.alloc (Obj.cells #[.slice a1 (li + 1) c1] 30)) (some ⟨w2.heap.size, 0, none⟩) 1 1 [sv (a1, li + 1, c1)] := Row.single w2 30 (.slice a1 (li + 1) c1) rfl
  have cbu := cb2.later hbu.size
  obtain ⟨ag, cg, w3, hrun2, hS, hB2⟩ := Sf.push 29 5 30 _ 24 Try.underlying29 info30 rfl cbu (long3.later hbu) hx (hO.later hbu) hk1 (by decide) (by decide) (fun i hi e => by omega) (by omega) (by omega)
  rw [upd_self (fun i => V i ++ [mR i]) p] at hS
  have kp2 : ∀ k, col1 k ≠ 0 → paint (w2.alloc (Obj.cells #[.slice a1 (li + 1) c1] 30)) w3 4 col1 k = col1 k := fun k hk => cbu.keep _ _ hk
  refine ⟨a1, c1, w2, ag, cg, w3, _, hrun, hrun2, ⟨below_but (below_call bel2 hbu) cbu (by decide) hB2, cbu.paint hB2.size 4, (idr2.later hbu).but hB2 (fun k hk e => by have := kI2 k hk; omega), fun k hk => by have h4 := kI2 k hk; rw [kp2 k (by omega)]; exact h4, ?_, ?_, ?_, ?_⟩⟩
  · exact (((rows3).later hbu).but hB2 (fun k e1 e2 => by omega) (fun i hi k e1 e2 => by omega)).recol kp2 (by decide) (by decide)
  · exact (((lists3).later hbu).but hB2 (fun k e1 e2 => by omega) (fun i hi k e1 e2 => by omega)).recol kp2 (by decide) (by decide)
  · exact hS
  · exact ((more3.later hbu).but hB2 (fun k e1 e2 => by omega) (fun i hi k e1 e2 => by omega)).recol kp2 (by decide) (by decide)
theorem Bv.addMore {wp wr : World} {col : Nat → Nat} {aI : Option Addr} {L cI : Nat} {ids : List Int} {aR : Option Addr} {nR cR : Nat} {T : Nat → Sl} {V : Nat → List Value} {p : Nat} {aL : Option Addr} {nL cL : Nat} {T2 : Nat → Sl} {V2 : Nat → List Value} {q : Nat} {aG : Option Addr} {cG : Nat} {U : Nat → Sl} {aM : Option Addr} {cM : Nat} {U2 : Nat → Sl} (h : Bv wp wr col aI L cI ids aR nR cR T V p aL nL cL T2 V2 q aG cG U aM cM U2) (hp : q < nL) (hnR : nR ≤ 800) (hnL : nL ≤ 800) (hqn : p ≤ nR ∧ q ≤ nL) {x : Option Addr} {li ca : Nat} (hT : T2 q = (x, li, ca)) (hli : li ≤ 4096) :
    ∃ a1 c1 w2 ag cg w3 col', (Builtin.append_ #[28, 28] 28 #[.slice x li ca, .slice (some ⟨wr.heap.size, 0, none⟩) 1 1]).run Try.prog (wr.alloc (Obj.cells #[mL q] 3)) = .ok (.slice a1 (li + 1) c1) w2 ∧ (Builtin.append_ #[52, 52] 52 #[.slice aM q cM, .slice (some ⟨w2.heap.size, 0, none⟩) 1 1]).run Try.prog (w2.alloc (Obj.cells #[.slice a1 (li + 1) c1] 28)) = .ok (.slice ag (q + 1) cg) w3 ∧ Bv wp w3 col' aI L cI ids aR nR cR T V p aL nL cL T2 V2 (q + 1) aG cG U ag cg (upd U2 q (a1, li + 1, c1)) := by
  have h1 := h.lists.inn q (Nat.le_refl _) hp
  rw [hT] at h1
  have hkx := h.lists.ki q hp
  rw [hT] at hkx
  simp only at h1 hkx
  obtain ⟨a1, c1, w2, hrun, hO, hG, hR⟩ := append_keep 28 3 _ 8 Try.underlying28 info3 rfl (mL q) rfl h1 h.cb.hb (by omega) (by omega)
  have hB : But (fun k => col k = 1000 + q) wr w2 := hG.but.mono (fun k hk => hkx k hk)
  have cb2 := h.cb.paint hB.size (1000 + q)
  have kp : ∀ k, col k ≠ 0 → paint wr w2 (1000 + q) col k = col k := fun k hk => h.cb.keep _ _ hk
  have hk1 : ∀ k, Blk a1 k → paint wr w2 (1000 + q) col k = 1000 + q := fun k hk => by
    rcases hG.on k hk with h2 | h2
    · have h3 := hkx k h2
      rw [kp k (by omega)]
      exact h3
    · exact paint_new h2 (hO.lt k hk)
  have bel2 : Below wp.heap.size wp w2 := below_but h.bel h.cb (by omega) hB
  have idr2 := h.idr.but hB (fun k hk e => by have := h.kI k hk; omega)
  have rows2 : Sg w2 wp.heap.size col 3 28 3 1000 aL nL cL T2 V2 (q + 1) := by
    refine ⟨h.lists.ou.but hB (fun k hk e => by have := h.lists.ko k hk; omega), h.lists.ko, fun i hi => ?_, fun i hpi hi => (h.lists.inn i (by omega) hi).but hB (fun k hk e => by have := h.lists.ki i hi k hk; omega), h.lists.ki⟩
    by_cases ei : i = q
    · subst ei
      rw [hT]
      exact hR
    · exact (h.lists.rd i hi).but hB (fun k hk e => by have := h.lists.ki i hi k hk; omega)
  have lists2 := h.rows.but hB (fun k e1 e2 => by omega) (fun i hi k e1 e2 => by omega)
  have long2 := h.more.but hB (fun k e1 e2 => by omega) (fun i hi k e1 e2 => by omega)
  have more2 := h.long.but hB (fun k e1 e2 => by omega) (fun i hi k e1 e2 => by omega)
  obtain ⟨col1, hc1⟩ : ∃ c, c = paint wr w2 (1000 + q) col := ⟨_, rfl⟩
  rw [← hc1] at cb2 kp hk1
  have kI2 : ∀ k, Blk aI k → col1 k = 1 := fun k hk => by have h4 := h.kI k hk; rw [kp k (by omega)]; exact h4
  have rows3 := rows2.recol kp (by decide) (by decide)
  have lists3 := lists2.recol kp (by decide) (by decide)
  have long3 := long2.recol kp (by decide) (by decide)
  have more3 := more2.recol kp (by decide) (by decide)
  have hbu : Below w2.heap.size w2 (w2.alloc (Obj.cells #[.slice a1 (li + 1) c1] 28)) := below1 _ _
  have hx : Row (w2.alloc (Obj.cells #[.slice a1 (li + 1) c1] 28)) (some ⟨w2.heap.size, 0, none⟩) 1 1 [sv (a1, li + 1, c1)] := Row.single w2 28 (.slice a1 (li + 1) c1) rfl
  have cbu := cb2.later hbu.size
  obtain ⟨ag, cg, w3, hrun2, hS, hB2⟩ := Sf.push 52 3 28 _ 24 Try.underlying52 info28 rfl cbu (long3.later hbu) hx (hO.later hbu) hk1 (by decide) (by decide) (fun i hi e => by omega) (by omega) (by omega)
  rw [upd_self (fun i => V2 i ++ [mL i]) q] at hS
  have kp2 : ∀ k, col1 k ≠ 0 → paint (w2.alloc (Obj.cells #[.slice a1 (li + 1) c1] 28)) w3 5 col1 k = col1 k := fun k hk => cbu.keep _ _ hk
  refine ⟨a1, c1, w2, ag, cg, w3, _, hrun, hrun2, ⟨below_but (below_call bel2 hbu) cbu (by decide) hB2, cbu.paint hB2.size 5, (idr2.later hbu).but hB2 (fun k hk e => by have := kI2 k hk; omega), fun k hk => by have h4 := kI2 k hk; rw [kp2 k (by omega)]; exact h4, ?_, ?_, ?_, ?_⟩⟩
  · exact (((lists3).later hbu).but hB2 (fun k e1 e2 => by omega) (fun i hi k e1 e2 => by omega)).recol kp2 (by decide) (by decide)
  · exact (((rows3).later hbu).but hB2 (fun k e1 e2 => by omega) (fun i hi k e1 e2 => by omega)).recol kp2 (by decide) (by decide)
  · exact ((more3.later hbu).but hB2 (fun k e1 e2 => by omega) (fun i hi k e1 e2 => by omega)).recol kp2 (by decide) (by decide)
  · exact hS
end Go.Proofs.Ytejkbeeffllpfaa
