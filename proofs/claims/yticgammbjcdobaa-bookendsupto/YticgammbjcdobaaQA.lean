import Derived.Test.YticgammbjcdobaaNX
namespace Go.Proofs.Yticgammbjcdobaa
open Go.RowKit
set_option linter.unusedVariables false
set_option linter.unusedSimpArgs false
/-! Maps by any key: one more, another or one less, by what is in them. -/
theorem Mg.put {w : World} {tk : TypeId} {b : Nat} {E : List (Value × Value)} (h : Mg w tk b E) (K : Kd tk) {t e : TypeId} (ht : Try.prog.underlying t = some (.map tk e)) {k : Value} (hk : Kv tk k) (v : Value) :
    ∃ w' E', (Instr.mapUpdate t (.map (some b)) k v).run Try.prog w = .ok () w' ∧ Mg w' tk b E' ∧ (∀ x, x ∈ E' ↔ x = (k, v) ∨ (x ∈ E ∧ x.1 ≠ k)) ∧ But (· = b) w w' ∧ w'.heap.size = w.heap.size ∧ E'.length ≤ E.length + 1 := by
  by_cases hx : ∃ v0, (k, v0) ∈ E
  · obtain ⟨v0, hm⟩ := hx
    obtain ⟨w', r, m, bt, s⟩ := h.set K ht hm v
    refine ⟨w', _, r, m, fun x => ?_, bt, s, by unfold upE; rw [List.length_map]; omega⟩
    unfold upE
    rw [List.mem_map]
    constructor
    · rintro ⟨y, hy, e⟩
      split at e
      · exact .inl e.symm
      · subst e
        exact .inr ⟨hy, by assumption⟩
    · rintro (rfl | ⟨hx, hn⟩)
      · exact ⟨(k, v0), hm, by simp⟩
      · exact ⟨x, hx, by rw [if_neg hn]⟩
  · have hn : ∀ x ∈ E, x.1 ≠ k := fun x hx' e => hx ⟨x.2, by rw [← e]; exact hx'⟩
    obtain ⟨w', r, m, bt, s⟩ := h.add K ht hk hn v
    refine ⟨w', _, r, m, fun x => ?_, bt, s, by simp⟩
    rw [List.mem_append, List.mem_singleton]
    constructor
    · rintro (hx' | rfl)
      · exact .inr ⟨hx', hn x hx'⟩
      · exact .inl rfl
    · rintro (rfl | ⟨hx', -⟩)
      · exact .inr rfl
      · exact .inl hx'
theorem map_erase {α β : Type} (f : α → β) : ∀ (l : List α) (j : Nat), (l.eraseIdx j).map f = (l.map f).eraseIdx j
  | [], _ => by simp
  | _ :: _, 0 => by simp
  | a :: r, j + 1 => by simp [map_erase f r j]
open Classical in
noncomputable def cutE (E : List (Value × Value)) (k : Value) : List (Value × Value) := E.filter (fun x => decide (x.1 ≠ k))
theorem mem_cutE {E : List (Value × Value)} {k : Value} {x : Value × Value} : x ∈ cutE E k ↔ x ∈ E ∧ x.1 ≠ k := by
  unfold cutE
  rw [List.mem_filter]
  simp
theorem cutE_none {E : List (Value × Value)} {k : Value} (h : ∀ x ∈ E, x.1 ≠ k) : cutE E k = E := by
  unfold cutE
  rw [List.filter_eq_self]
  intro x hx
  simp [h x hx]
theorem cutE_erase {E : List (Value × Value)} {j : Nat} {y : Value × Value} (hj : E[j]? = some y) (hn : (E.map Prod.fst).Nodup) : E.eraseIdx j = cutE E y.1 := by
  induction E generalizing j with
  | nil => simp at hj
  | cons z E ih =>
    rw [List.map_cons, List.nodup_cons] at hn
    cases j with
    | zero =>
      simp at hj
      subst hj
      have : ∀ x ∈ E, x.1 ≠ z.1 := fun x hx e => hn.1 (by rw [← e]; exact List.mem_map.2 ⟨x, hx, rfl⟩)
      have e := cutE_none this
      unfold cutE at e ⊢
      rw [List.filter_cons_of_neg (by simp), e]
      rfl
    | succ j =>
      simp only [List.getElem?_cons_succ] at hj
      have hy : y.1 ∈ E.map Prod.fst := List.mem_map.2 ⟨y, List.mem_of_getElem? hj, rfl⟩
      have e := ih hj hn.2
      have hz : z.1 ≠ y.1 := fun e => hn.1 (by rw [e]; exact hy)
      simp only [List.eraseIdx_cons_succ]
      rw [e]
      unfold cutE
      rw [List.filter_cons_of_pos (by simp [hz])]
theorem Mg.del {w : World} {tk : TypeId} {b : Nat} {E : List (Value × Value)} (h : Mg w tk b E) (K : Kd tk) {t e : TypeId} (ht : Try.prog.underlying t = some (.map tk e)) {k : Value} (hk : Kv tk k) (ty kt : TypeId) :
    ∃ w', (Builtin.delete_ #[t, kt] ty #[.map (some b), k]).run Try.prog w = .ok (.tuple #[]) w' ∧ Mg w' tk b (cutE E k) ∧ But (· = b) w w' ∧ w'.heap.size = w.heap.size := by
  obtain ⟨es, clk, hb, hE⟩ := h.ex
  obtain ⟨l, hl⟩ := hk
  have hck := K.check w es.isEmpty hl
  rcases h.find K ⟨l, hl⟩ hb hE with ⟨hf, hn⟩ | ⟨j, x, hf, hj, hx, hmem⟩
  · refine ⟨{ w with heap := w.heap.setIfInBounds b (.map es clk) }, by simp only [Builtin.delete_, List.getElem?_toArray, List.getElem?_cons_zero, List.getElem?_cons_succ, Sem.run_bind, run_underlying ht, Result.andThen_ok, MapKept.run_getObj_map hb, hck, hf, MapKept.run_setObj_map _ hb, Sem.run_pure], ?_, ⟨rfl, rfl, rfl, by simp, fun k hk hn => (MapKept.heap_set hb).2 k hn⟩, by simp⟩
    rw [cutE_none hn]
    refine ⟨⟨es, clk, (MapKept.heap_set hb).1, hE⟩, h.ok, h.nd, fun es' clk' h' => ?_⟩
    have e := (MapKept.heap_set (o' := Obj.map es clk) hb).1
    have e2 := e.symm.trans h'
    simp at e2
    obtain ⟨rfl, rfl⟩ := e2
    exact h.st _ _ hb
  · have hjl : j < es.size := (Array.getElem?_eq_some_iff.1 hj).1
    have hjE : E[j]? = some (k, x.val) := by rw [← hE, List.getElem?_map, Array.getElem?_toList, hj]; simp [hx]
    have hE' : (es.eraseIdxIfInBounds j).toList.map (fun e => (e.key, e.val)) = cutE E k := by
      rw [← cutE_erase hjE h.nd, ← hE]
      unfold Array.eraseIdxIfInBounds
      rw [dif_pos hjl, Array.toList_eraseIdx, map_erase]
    refine ⟨{ w with heap := w.heap.setIfInBounds b (.map (es.eraseIdxIfInBounds j) clk) }, by simp only [Builtin.delete_, List.getElem?_toArray, List.getElem?_cons_zero, List.getElem?_cons_succ, Sem.run_bind, run_underlying ht, Result.andThen_ok, MapKept.run_getObj_map hb, hck, hf, MapKept.run_setObj_map _ hb, Sem.run_pure], ⟨⟨_, _, (MapKept.heap_set hb).1, hE'⟩, fun y hy => h.ok y (mem_cutE.1 hy).1, ?_, fun es' clk' h' => ?_⟩, ⟨rfl, rfl, rfl, by simp, fun k hk hn => (MapKept.heap_set hb).2 k hn⟩, by simp⟩
    · exact List.Nodup.sublist (List.Sublist.map _ List.filter_sublist) h.nd
    · have e := (MapKept.heap_set (o' := Obj.map (es.eraseIdxIfInBounds j) clk) hb).1
      have e2 := e.symm.trans h'
      simp at e2
      obtain ⟨rfl, rfl⟩ := e2
      exact MapKept.stamped_erase (h.st _ _ hb) _
theorem nil_del (w : World) {tk : TypeId} (K : Kd tk) {t e : TypeId} (ht : Try.prog.underlying t = some (.map tk e)) {k : Value} (hk : Kv tk k) (ty kt : TypeId) :
    (Builtin.delete_ #[t, kt] ty #[.map none, k]).run Try.prog w = .ok (.tuple #[]) w := by
  obtain ⟨l, hl⟩ := hk
  have hck := K.check w true hl
  simp only [Builtin.delete_, List.getElem?_toArray, List.getElem?_cons_zero, List.getElem?_cons_succ, Sem.run_bind, run_underlying ht, Result.andThen_ok, hck, Sem.run_pure]
theorem del_arm {P : Program} {w w' : World} {ops : Array Oper} {rest : List Oper} {a : Act} {Q : Exit → Act → World → Prop} {tt : TypeId} {ps : String} {af} {t k : TypeId} {x y : Operand} {p v : Value}
    (hr : (Builtin.delete_ #[t, k] tt #[p, v]).run P w = .ok (.tuple #[]) w') (hx : a.eval x = p) (hy : a.eval y = v) (h : wpList P ops Q rest a w') :
    wpList P ops Q ({ dst := none, op := .call { callee := .builtin .delete, args := #[x, y], argTypes := #[t, k] }, type := tt, pos := ps, after := af, guard := none } :: rest) a w := by
  refine wpList_plain rfl fun K hK => ?_
  unfold Oper.wp
  simp [execOp, resolve, invoke, builtin, hx, hy, hr, Result.andThen]
  exact hK _ _ h
theorem wp_del {P : Program} {w w' : World} {o : Oper} {a : Act} {K : Act → World → Prop} {Q : Exit → Act → World → Prop} {t k : TypeId} {x y : Operand} {p v : Value} (ho : o.op = .call { callee := .builtin .delete, args := #[x, y], argTypes := #[t, k] }) (hx : a.eval x = p) (hy : a.eval y = v) (hr : (Builtin.delete_ #[t, k] o.type #[p, v]).run P w = .ok (.tuple #[]) w') (h : K (a.put o.dst (.tuple #[])) w') : o.wp P a w K Q := by
  unfold Oper.wp execOp
  simp only [ho, resolve, invoke, builtin, Sem.run_bind, Sem.run_pure, Result.andThen_ok, List.map_toArray, List.map_cons, List.map_nil, hx, hy, hr]
  exact h
/-! What stands under two keys. -/
def In (G : List Im) (p : Int) (x : Value × Value) : Prop := ∃ g ∈ G, g.p = p ∧ x ∈ g.E
theorem gt_some {G : List Im} {p : Int} {k v : Value} : Gt G p k (some v) ↔ In G p (k, v) := Iff.rfl
theorem gt_none {G : List Im} {p : Int} {k : Value} : Gt G p k none ↔ ∀ x, In G p x → x.1 ≠ k := ⟨fun h x ⟨g, hg, e, hx⟩ => h g hg e x hx, fun h g hg e x hx => h x ⟨g, hg, e, hx⟩⟩
abbrev blG (b : Nat) (G : List Im) : List Nat := b :: G.map Im.b
theorem Mm.kv {w : World} {ti : TypeId} {b : Nat} {G : List Im} (h : Mm w ti b G) {p : Int} {x : Value × Value} (hi : In G p x) : Kv ti x.1 := by
  obtain ⟨g, hg, e, hx⟩ := hi
  exact (h.inn g hg).ok x hx
theorem Mm.one {w : World} {ti : TypeId} {b : Nat} {G : List Im} (h : Mm w ti b G) {p : Int} {x y : Value × Value} (h1 : In G p x) (h2 : In G p y) (e : x.1 = y.1) : x = y := by
  obtain ⟨g, hg, e1, hx⟩ := h1
  obtain ⟨g', hg', e2, hy⟩ := h2
  have := h.same hg hg' (e1.trans e2.symm)
  subst this
  obtain ⟨a, c⟩ := x
  obtain ⟨a', c'⟩ := y
  simp only at e
  subst e
  rw [(h.inn g hg).one hx hy]
/-- The inner map of a number is there: another content for it. -/
theorem Mm.turn {w w' : World} {ti : TypeId} {b : Nat} {G : List Im} (h : Mm w ti b G) {g : Im} (hg : g ∈ G) {E' : List (Value × Value)} (hm : Mg w' ti g.b E') (hb : But (· = g.b) w w') :
    ∃ G', Mm w' ti b G' ∧ G'.map Im.b = G.map Im.b ∧ (∀ p x, In G' p x ↔ (p = g.p ∧ x ∈ E') ∨ (p ≠ g.p ∧ In G p x)) ∧ ∀ x ∈ G', x ∈ G ∨ x.E = E' := by
  obtain ⟨G1, G2, rfl⟩ := List.append_of_mem hg
  have hd := h.dis
  have hgb : b ≠ g.b := fun e => (List.nodup_cons.1 hd).1 (by rw [e]; exact List.mem_map.2 ⟨g, hg, rfl⟩)
  have hmap : (G1 ++ (⟨g.p, g.b, E'⟩ : Im) :: G2).map (fun g => (Value.int .i64 g.p, Value.map (some g.b))) = (G1 ++ g :: G2).map (fun g => (Value.int .i64 g.p, Value.map (some g.b))) := by simp
  have hmb : (G1 ++ (⟨g.p, g.b, E'⟩ : Im) :: G2).map Im.b = (G1 ++ g :: G2).map Im.b := by simp
  have hnd := (List.nodup_cons.1 hd).2
  rw [List.map_append, List.map_cons, List.nodup_append] at hnd
  have hne : ∀ x ∈ G1 ++ g :: G2, x ∈ G1 ∨ x ∈ G2 → x.b ≠ g.b := fun x _ hx e => by
    rcases hx with hx | hx
    · exact hnd.2.2 x.b (List.mem_map.2 ⟨x, hx, rfl⟩) g.b List.mem_cons_self e
    · exact (List.nodup_cons.1 hnd.2.1).1 (by rw [← e]; exact List.mem_map.2 ⟨x, hx, rfl⟩)
  have hin1 : ∀ x ∈ G1, x ∈ G1 ++ g :: G2 := fun x hx => List.mem_append.2 (.inl hx)
  have hin2 : ∀ x ∈ G2, x ∈ G1 ++ g :: G2 := fun x hx => List.mem_append.2 (.inr (List.mem_cons_of_mem _ hx))
  have hnp : ∀ x, x ∈ G1 ∨ x ∈ G2 → x.p ≠ g.p := fun x hx e => by
    have hxm : x ∈ G1 ++ g :: G2 := by rcases hx with hx | hx; exact hin1 x hx; exact hin2 x hx
    exact hne x hxm hx (h.key hxm hg e)
  refine ⟨G1 ++ ⟨g.p, g.b, E'⟩ :: G2, ⟨by rw [hmap]; exact h.out.but hb hgb, fun x hx => ?_, by rw [hmb]; exact hd⟩, hmb, fun p x => ⟨?_, ?_⟩, fun x hx => ?_⟩
  · rcases List.mem_append.1 hx with hx | hx
    · exact (h.inn x (hin1 x hx)).but hb (hne x (hin1 x hx) (.inl hx))
    · rcases List.mem_cons.1 hx with rfl | hx
      · exact hm
      · exact (h.inn x (hin2 x hx)).but hb (hne x (hin2 x hx) (.inr hx))
  · rintro ⟨y, hy, e, hx⟩
    rcases List.mem_append.1 hy with hy | hy
    · exact .inr ⟨by rw [← e]; exact hnp y (.inl hy), y, hin1 y hy, e, hx⟩
    · rcases List.mem_cons.1 hy with rfl | hy
      · exact .inl ⟨e.symm, hx⟩
      · exact .inr ⟨by rw [← e]; exact hnp y (.inr hy), y, hin2 y hy, e, hx⟩
  · rintro (⟨rfl, hx⟩ | ⟨hp, y, hy, e, hx⟩)
    · exact ⟨⟨g.p, g.b, E'⟩, List.mem_append.2 (.inr List.mem_cons_self), rfl, hx⟩
    · rcases List.mem_append.1 hy with hy | hy
      · exact ⟨y, List.mem_append.2 (.inl hy), e, hx⟩
      · rcases List.mem_cons.1 hy with rfl | hy
        · exact absurd e.symm hp
        · exact ⟨y, List.mem_append.2 (.inr (List.mem_cons_of_mem _ hy)), e, hx⟩
  · rcases List.mem_append.1 hx with hx | hx
    · exact .inl (hin1 x hx)
    · rcases List.mem_cons.1 hx with rfl | hx
      · exact .inr rfl
      · exact .inl (hin2 x hx)
/-- Only the outer map turns. -/
theorem Mm.cut {w : World} {ti : TypeId} {b : Nat} {G : List Im} (h : Mm w ti b G) {t e : TypeId} (ht : Try.prog.underlying t = some (.map 3 e)) {p : Int} (hp : I64 p) (ty kt : TypeId) :
    ∃ w', (Builtin.delete_ #[t, kt] ty #[.map (some b), .int .i64 p]).run Try.prog w = .ok (.tuple #[]) w' ∧ Mm w' ti b (G.filter (fun g => decide (g.p ≠ p))) ∧ (∀ q x, In (G.filter (fun g => decide (g.p ≠ p))) q x ↔ q ≠ p ∧ In G q x) ∧ But (· = b) w w' ∧ w'.heap.size = w.heap.size := by
  obtain ⟨w', hr, hm, hb, hs⟩ := h.out.del ikey ht (kint hp) ty kt
  have hd := List.nodup_cons.1 h.dis
  have hE : cutE (G.map fun g => (Value.int .i64 g.p, Value.map (some g.b))) (.int .i64 p) = (G.filter (fun g => decide (g.p ≠ p))).map fun g => (Value.int .i64 g.p, Value.map (some g.b)) := by
    unfold cutE
    rw [List.filter_map]
    refine congrArg (List.map _) (List.filter_congr (fun g hg => ?_))
    simp [Function.comp]
  rw [hE] at hm
  refine ⟨w', hr, ⟨hm, fun g hg => ?_, ?_⟩, fun q x => ⟨?_, ?_⟩, hb, hs⟩
  · have hg' := List.mem_filter.1 hg
    exact (h.inn g hg'.1).but hb (fun e => hd.1 (by rw [← e]; exact List.mem_map.2 ⟨g, hg'.1, rfl⟩))
  · exact List.Nodup.sublist (List.Sublist.cons_cons _ (List.Sublist.map _ List.filter_sublist)) h.dis
  · rintro ⟨g, hg, e, hx⟩
    have hg' := List.mem_filter.1 hg
    exact ⟨by rw [← e]; simpa using hg'.2, g, hg'.1, e, hx⟩
  · rintro ⟨hq, g, hg, e, hx⟩
    exact ⟨g, List.mem_filter.2 ⟨hg, by rw [e]; simpa using hq⟩, e, hx⟩
/-- One more or another under two keys, the number has an inner map. -/
theorem Mm.put {w : World} {ti : TypeId} {b : Nat} {G : List Im} (h : Mm w ti b G) (K : Kd ti) {tm e : TypeId} (hi : Try.prog.underlying tm = some (.map ti e)) {g : Im} (hg : g ∈ G) {k : Value} (hk : Kv ti k) (v : Value) :
    ∃ w' G', (Instr.mapUpdate tm (.map (some g.b)) k v).run Try.prog w = .ok () w' ∧ Mm w' ti b G' ∧ G'.map Im.b = G.map Im.b ∧ (∀ p x, In G' p x ↔ (p = g.p ∧ x = (k, v)) ∨ (In G p x ∧ ¬ (p = g.p ∧ x.1 = k))) ∧ But (· = g.b) w w' ∧ ∀ x ∈ G', ∃ y ∈ G, x.E.length ≤ y.E.length + 1 := by
  obtain ⟨w', E', hr, hm, hE, hb, hs, hle⟩ := (h.inn g hg).put K hi hk v
  obtain ⟨G', m', e', hin, hsz⟩ := h.turn hg hm hb
  refine ⟨w', G', hr, m', e', fun p x => (hin p x).trans ⟨?_, ?_⟩, hb, fun x hx => (hsz x hx).elim (fun h1 => ⟨x, h1, by omega⟩) (fun h1 => ⟨g, hg, by rw [h1]; exact hle⟩)⟩
  · rintro (⟨rfl, hx⟩ | ⟨hp, hx⟩)
    · rcases (hE x).1 hx with h1 | ⟨h1, h2⟩
      · exact .inl ⟨rfl, h1⟩
      · exact .inr ⟨⟨g, hg, rfl, h1⟩, fun h3 => h2 h3.2⟩
    · exact .inr ⟨hx, fun h3 => hp h3.1⟩
  · rintro (⟨rfl, rfl⟩ | ⟨hx, hn⟩)
    · exact .inl ⟨rfl, (hE _).2 (.inl rfl)⟩
    · by_cases hp : p = g.p
      · subst hp
        obtain ⟨g', hg', e, hx'⟩ := hx
        have := h.same hg' hg e
        subst this
        exact .inl ⟨rfl, (hE x).2 (.inr ⟨hx', fun e => hn ⟨rfl, e⟩⟩)⟩
      · exact .inr ⟨hp, hx⟩
/-- One less under two keys. -/
theorem Mm.del {w : World} {ti : TypeId} {b : Nat} {G : List Im} (h : Mm w ti b G) (K : Kd ti) {tm e : TypeId} (hi : Try.prog.underlying tm = some (.map ti e)) {g : Im} (hg : g ∈ G) {k : Value} (hk : Kv ti k) (ty kt : TypeId) :
    ∃ w' G', (Builtin.delete_ #[tm, kt] ty #[.map (some g.b), k]).run Try.prog w = .ok (.tuple #[]) w' ∧ Mm w' ti b G' ∧ G'.map Im.b = G.map Im.b ∧ (∀ p x, In G' p x ↔ In G p x ∧ ¬ (p = g.p ∧ x.1 = k)) ∧ But (· = g.b) w w' ∧ ∀ x ∈ G', ∃ y ∈ G, x.E.length ≤ y.E.length := by
  obtain ⟨w', hr, hm, hb, hs⟩ := (h.inn g hg).del K hi hk ty kt
  obtain ⟨G', m', e', hin, hsz⟩ := h.turn hg hm hb
  refine ⟨w', G', hr, m', e', fun p x => (hin p x).trans ⟨?_, ?_⟩, hb, fun x hx => (hsz x hx).elim (fun h1 => ⟨x, h1, Nat.le_refl _⟩) (fun h1 => ⟨g, hg, by rw [h1]; unfold cutE; exact List.length_filter_le _ _⟩)⟩
  · rintro (⟨rfl, hx⟩ | ⟨hp, hx⟩)
    · have hx' := mem_cutE.1 hx
      exact ⟨⟨g, hg, rfl, hx'.1⟩, fun h3 => hx'.2 h3.2⟩
    · exact ⟨hx, fun h3 => hp h3.1⟩
  · rintro ⟨hx, hn⟩
    by_cases hp : p = g.p
    · subst hp
      obtain ⟨g', hg', e, hx'⟩ := hx
      have := h.same hg' hg e
      subst this
      exact .inl ⟨rfl, mem_cutE.2 ⟨hx', fun e => hn ⟨rfl, e⟩⟩⟩
    · exact .inr ⟨hp, hx⟩
/-! What a book's calls write to, and what is left behind them. -/
def Owb (m : Bm) (j : Nat) : Prop := j ∈ m.blks ∨ (∃ k ∈ m.I, Blk k.s.a j) ∨ ∃ k ∈ m.K, Blk k.s.a j
structure Tr (w w' : World) (m m' : Bm) : Prop where
  g : m'.g = m.g
  bt : But (Owb m) w w'
  gr : ∀ j, Owb m' j → Owb m j ∨ w.heap.size ≤ j
theorem Bw.own_lt {w : World} {m : Bm} (h : Bw w m) : ∀ j, Owb m j → j < w.heap.size := by
  intro j hj
  rcases hj with hj | ⟨k, hk, hj⟩ | ⟨k, hk, hj⟩
  · exact h.lo j hj
  · exact ((h.lists.each k hk).1.blk j hj).2
  · exact ((h.known.each k hk).1.blk j hj).2
theorem Tr.refl (w : World) (m : Bm) : Tr w w m m := ⟨rfl, But.refl _ _, fun _ h => .inl h⟩
theorem Tr.trans {w w1 w2 : World} {m m1 m2 : Bm} (h : Tr w w1 m m1) (k : Tr w1 w2 m1 m2) : Tr w w2 m m2 :=
  ⟨k.g.trans h.g, h.bt.comp k.bt h.gr, fun j hj => by
    rcases k.gr j hj with h1 | h1
    · exact h.gr j h1
    · exact .inr (Nat.le_trans h.bt.size h1)⟩
theorem Tr.later {w w1 w2 : World} {m m1 : Bm} (h : Tr w w1 m m1) (k : Below w1.heap.size w1 w2) : Tr w w2 m m1 := ⟨h.g, h.bt.trans (But.of k), h.gr⟩
theorem Tr.fore {w w1 w2 : World} {m m1 : Bm} (k : Below w.heap.size w w1) (h : Tr w1 w2 m m1) : Tr w w2 m m1 := ⟨h.g, (But.of k).trans h.bt, fun j hj => (h.gr j hj).imp id (Nat.le_trans k.size)⟩
theorem Bw.tyd {w : World} {m : Bm} (h : Bw w m) {k : Nat} {s kd b t : Int} {c : Cp} {ah : Option Addr} (ht : Tyd w k s kd b t c ah) : ¬ Owb m k := by
  rintro (hj | ⟨x, hx, hj⟩ | ⟨x, hx, hj⟩)
  · have hmm : ∀ {ti : TypeId} {b : Nat} {G : List Im}, Mm w ti b G → k ∈ b :: G.map Im.b → False := fun {ti} {b} {G} hG hx => by
      rcases List.mem_cons.1 hx with rfl | hx
      · exact ht.map hG.out rfl
      · obtain ⟨g, hg, rfl⟩ := List.mem_map.1 hx
        exact ht.map (hG.inn g hg) rfl
    rcases List.mem_append.1 hj with hj | hj
    · exact hmm h.live hj
    · rcases List.mem_append.1 hj with hj | hj
      · exact hmm h.told hj
      · rcases List.mem_cons.1 hj with rfl | hj
        · exact ht.g h.bx rfl
        · rcases List.mem_cons.1 hj with rfl | hj
          · exact ht.map h.lists.out rfl
          · rcases List.mem_cons.1 hj with rfl | hj
            · exact ht.map h.known.out rfl
            · exact hmm h.laid hj
  · exact ht.row (h.lists.each x hx).1 hj
  · exact ht.row (h.known.each x hx).1 hj
theorem Tls.but {S : Nat → Prop} {w w' : World} {m : Bm} (h : Bw w m) (hb : But S w w') (hS : ∀ j, S j → Owb m j) : ∀ {ls : List Lk} {p : Option Addr}, Tls w p ls → Tls w' p ls
  | [], p, h' => h'
  | x :: ls, p, ⟨k, ah, e, ht, hr⟩ => ⟨k, ah, e, ht.but hb (fun hs => h.tyd ht (hS _ hs)), Tls.but h hb hS hr⟩
/-! The book's parts turned, one at a time. -/
theorem nodup_swap {X A A' Y : List Nat} {n : Nat} (h : (X ++ (A ++ Y)).Nodup) (hA : A'.Nodup) (hn : ∀ a ∈ A', a ∈ A ∨ n ≤ a) (hlt : ∀ a ∈ X ++ (A ++ Y), a < n) : (X ++ (A' ++ Y)).Nodup := by
  obtain ⟨h1, h2, h3⟩ := List.nodup_append.1 h
  obtain ⟨h4, h5, h6⟩ := List.nodup_append.1 h2
  refine List.nodup_append.2 ⟨h1, List.nodup_append.2 ⟨hA, h5, fun a ha b hb e => ?_⟩, fun a ha b hb e => ?_⟩
  · rcases hn a ha with h7 | h7
    · exact h6 a h7 b hb e
    · have := hlt b (by simp [hb]); omega
  · rcases List.mem_append.1 hb with hb | hb
    · rcases hn b hb with h7 | h7
      · exact h3 a ha b (List.mem_append.2 (.inl h7)) e
      · have := hlt a (by simp [ha]); omega
    · exact h3 a ha b (List.mem_append.2 (.inr hb)) e
theorem Bw.mcI {S : Nat → Prop} {w w' : World} {m : Bm} (h : Bw w m) (hb : But S w w') (hS : ∀ j, S j → j ∈ m.blks) (hn : ¬ S m.bi) : Mc w' (m.g + 1) m.bi m.I :=
  ⟨h.lists.out.but hb hn, fun k hk => ⟨(h.lists.each k hk).1.but hb (fun j hj hs => h.cells (h.lists.each k hk).1 (by omega) j hj (hS j hs)), (h.lists.each k hk).2⟩, h.lists.dis⟩
theorem Bw.mcK {S : Nat → Prop} {w w' : World} {m : Bm} (h : Bw w m) (hb : But S w w') (hS : ∀ j, S j → j ∈ m.blks) (hn : ¬ S m.bk) : Mc w' (m.g + 1) m.bk m.K :=
  ⟨h.known.out.but hb hn, fun k hk => ⟨(h.known.each k hk).1.but hb (fun j hj hs => h.cells (h.known.each k hk).1 (by omega) j hj (hS j hs)), (h.known.each k hk).2⟩, h.known.dis⟩
theorem grow_mem {b n : Nat} {G G' : List Im} (hn : ∀ g ∈ G', g.b ∈ G.map Im.b ∨ n ≤ g.b) : ∀ a ∈ blG b G', a ∈ blG b G ∨ n ≤ a := by
  intro a ha
  rcases List.mem_cons.1 ha with rfl | ha
  · exact .inl List.mem_cons_self
  · obtain ⟨g, hg, rfl⟩ := List.mem_map.1 ha
    exact (hn g hg).imp (List.mem_cons_of_mem _) id
theorem Bw.live_to {S : Nat → Prop} {w w' : World} {m : Bm} {L' : List Im} (h : Bw w m) (hb : But S w w') (hS : ∀ j, S j → j ∈ blG m.bl m.L) (hM : Mm w' 29 m.bl L') (hn : ∀ g ∈ L', g.b ∈ m.L.map Im.b ∨ w.heap.size ≤ g.b) : Bw w' { m with L := L' } ∧ Tr w w' m { m with L := L' } := by
  have hd := List.nodup_append.1 h.dis
  have hne : ∀ j, j ∈ (blG m.bt m.T) ++ m.rest → ¬ S j := fun j hj hs => hd.2.2 j (hS j hs) j hj rfl
  have hSb : ∀ j, S j → j ∈ m.blks := fun j hs => List.mem_append.2 (.inl (hS j hs))
  have hgr : ∀ j ∈ Bm.blks { m with L := L' }, j ∈ m.blks ∨ w.heap.size ≤ j := fun j hj => by
    rcases List.mem_append.1 hj with hj | hj
    · exact (grow_mem hn j hj).imp (fun h => List.mem_append.2 (.inl h)) id
    · exact .inl (List.mem_append.2 (.inr hj))
  refine ⟨⟨h.bx.but hb (hne _ (by simp)), hM, h.laid.but hb (fun j hj => hne j (List.mem_append.2 (.inr (rest_a hj)))), h.told.but hb (fun j hj => hne j (List.mem_append.2 (.inl hj))), h.mcI hb hSb (hne _ (by simp)), h.mcK hb hSb (hne _ (by simp)), ?_, ?_, h.ap⟩, rfl, hb.mono (fun j hs => .inl (hSb j hs)), fun j hj => ?_⟩
  · exact nodup_swap (X := []) (A := blG m.bl m.L) (n := w.heap.size) h.dis hM.dis (grow_mem hn) h.lo
  · intro j hj
    rcases List.mem_append.1 hj with hj | hj
    · exact hM.lt j hj
    · exact Nat.lt_of_lt_of_le (h.lo j (List.mem_append.2 (.inr hj))) hb.size
  · rcases hj with hj | hj
    · exact (hgr j hj).imp .inl id
    · exact .inl (.inr hj)
theorem Bw.told_to {S : Nat → Prop} {w w' : World} {m : Bm} {L' : List Im} (h : Bw w m) (hb : But S w w') (hS : ∀ j, S j → j ∈ blG m.bt m.T) (hM : Mm w' 95 m.bt L') (hn : ∀ g ∈ L', g.b ∈ m.T.map Im.b ∨ w.heap.size ≤ g.b) : Bw w' { m with T := L' } ∧ Tr w w' m { m with T := L' } := by
  have hd := List.nodup_append.1 h.dis
  have hd2 := List.nodup_append.1 hd.2.1
  have hne : ∀ j, j ∈ m.rest → ¬ S j := fun j hj hs => hd2.2.2 j (hS j hs) j hj rfl
  have hnl : ∀ j, j ∈ blG m.bl m.L → ¬ S j := fun j hj hs => hd.2.2 j hj j (List.mem_append.2 (.inl (hS j hs))) rfl
  have hSb : ∀ j, S j → j ∈ m.blks := fun j hs => List.mem_append.2 (.inr (List.mem_append.2 (.inl (hS j hs))))
  have hgr : ∀ j ∈ Bm.blks { m with T := L' }, j ∈ m.blks ∨ w.heap.size ≤ j := fun j hj => by
    rcases List.mem_append.1 hj with hj | hj
    · exact .inl (List.mem_append.2 (.inl hj))
    · rcases List.mem_append.1 hj with hj | hj
      · exact (grow_mem hn j hj).imp (fun h => List.mem_append.2 (.inr (List.mem_append.2 (.inl h)))) id
      · exact .inl (List.mem_append.2 (.inr (List.mem_append.2 (.inr hj))))
  refine ⟨⟨h.bx.but hb (hne _ (by simp)), h.live.but hb hnl, h.laid.but hb (fun j hj => hne j (rest_a hj)), hM, h.mcI hb hSb (hne _ (by simp)), h.mcK hb hSb (hne _ (by simp)), ?_, ?_, h.ap⟩, rfl, hb.mono (fun j hs => .inl (hSb j hs)), fun j hj => ?_⟩
  · exact nodup_swap (X := blG m.bl m.L) (A := blG m.bt m.T) (n := w.heap.size) h.dis hM.dis (grow_mem hn) h.lo
  · intro j hj
    rcases List.mem_append.1 hj with hj | hj
    · exact Nat.lt_of_lt_of_le (h.lo j (List.mem_append.2 (.inl hj))) hb.size
    · rcases List.mem_append.1 hj with hj | hj
      · exact hM.lt j hj
      · exact Nat.lt_of_lt_of_le (h.lo j (List.mem_append.2 (.inr (List.mem_append.2 (.inr hj))))) hb.size
  · rcases hj with hj | hj
    · exact (hgr j hj).imp .inl id
    · exact .inl (.inr hj)
theorem blks_a (m : Bm) : m.blks = (blG m.bl m.L ++ (blG m.bt m.T ++ [m.g, m.bi, m.bk])) ++ (blG m.ba m.A ++ []) := by simp [Bm.blks, Bm.rest]
theorem Bw.laid_to {S : Nat → Prop} {w w' : World} {m : Bm} {L' : List Im} (h : Bw w m) (hb : But S w w') (hS : ∀ j, S j → j ∈ blG m.ba m.A) (hM : Mm w' 3 m.ba L') (hn : ∀ g ∈ L', g.b ∈ m.A.map Im.b ∨ w.heap.size ≤ g.b) : Bw w' { m with A := L' } ∧ Tr w w' m { m with A := L' } := by
  have hdd := h.dis
  have hlo := h.lo
  rw [blks_a] at hdd hlo
  have hd := List.nodup_append.1 hdd
  have hne : ∀ j, j ∈ blG m.bl m.L ++ (blG m.bt m.T ++ [m.g, m.bi, m.bk]) → ¬ S j := fun j hj hs => hd.2.2 j hj j (List.mem_append.2 (.inl (hS j hs))) rfl
  have hSb : ∀ j, S j → j ∈ m.blks := fun j hs => by rw [blks_a]; exact List.mem_append.2 (.inr (List.mem_append.2 (.inl (hS j hs))))
  have hgr : ∀ j ∈ Bm.blks { m with A := L' }, j ∈ m.blks ∨ w.heap.size ≤ j := fun j hj => by
    rw [blks_a] at hj ⊢
    rcases List.mem_append.1 hj with hj | hj
    · exact .inl (List.mem_append.2 (.inl hj))
    · rcases List.mem_append.1 hj with hj | hj
      · exact (grow_mem hn j hj).imp (fun h => List.mem_append.2 (.inr (List.mem_append.2 (.inl h)))) id
      · cases hj
  refine ⟨⟨h.bx.but hb (hne _ (by simp)), h.live.but hb (fun j hj => hne j (List.mem_append.2 (.inl hj))), hM, h.told.but hb (fun j hj => hne j (List.mem_append.2 (.inr (List.mem_append.2 (.inl hj))))), h.mcI hb hSb (hne _ (by simp)), h.mcK hb hSb (hne _ (by simp)), ?_, ?_, h.ap⟩, rfl, hb.mono (fun j hs => .inl (hSb j hs)), fun j hj => ?_⟩
  · rw [blks_a]
    exact nodup_swap (A := blG m.ba m.A) (n := w.heap.size) hdd hM.dis (grow_mem hn) hlo
  · intro j hj
    rcases hgr j hj with h1 | h1
    · exact Nat.lt_of_lt_of_le (h.lo j h1) hb.size
    · rw [blks_a] at hj
      rcases List.mem_append.1 hj with hj | hj
      · exact Nat.lt_of_lt_of_le (h.lo j (by rw [blks_a]; exact List.mem_append.2 (.inl hj))) hb.size
      · rcases List.mem_append.1 hj with hj | hj
        · exact hM.lt j hj
        · cases hj
  · rcases hj with hj | hj
    · exact (hgr j hj).imp .inl id
    · exact .inl (.inr hj)
/-! Lists by a process. -/
/-- What stands for a process. -/
def Lsl (K : List Kn) (p : Int) (s : Sl) (l : List Cp) : Prop := (⟨p, s, l⟩ : Kn) ∈ K ∨ (s = ⟨none, 0, 0⟩ ∧ l = [] ∧ ∀ k ∈ K, k.p ≠ p)
theorem Lsl.some_of (K : List Kn) (p : Int) : ∃ s l, Lsl K p s l := by
  by_cases h : ∃ k ∈ K, k.p = p
  · obtain ⟨⟨q, s, l⟩, hk, rfl⟩ := h
    exact ⟨s, l, .inl hk⟩
  · exact ⟨_, _, .inr ⟨rfl, rfl, fun k hk e => h ⟨k, hk, e⟩⟩⟩
theorem Mc.nokey {w : World} {base b : Nat} {K : List Kn} {p : Int} (hn : ∀ k ∈ K, k.p ≠ p) : ∀ x ∈ K.map (fun k => (Value.int .i64 k.p, Value.slice k.s.a k.s.n k.s.c)), x.1 ≠ Value.int .i64 p := fun x hx => by
  obtain ⟨k, hk, rfl⟩ := List.mem_map.1 hx
  intro e
  simp at e
  exact hn k hk e
theorem Mc.look {w : World} {base b : Nat} {K : List Kn} (h : Mc w base b K) {p : Int} (hp : I64 p) {s : Sl} {l : List Cp} (hl : Lsl K p s l) :
    (Instr.lookup 61 (.map (some b)) (.int .i64 p) false).run Try.prog w = .ok (.slice s.a s.n s.c) w ∧ Ow w base 31 3 s.a s.n s.c (capsL l) ∧ l.length = s.n := by
  rcases hl with hk | ⟨rfl, rfl, hn⟩
  · exact ⟨h.out.hit ikey Try.underlying61 (List.mem_map.2 ⟨_, hk, rfl⟩) false, h.each _ hk⟩
  · exact ⟨h.out.miss ikey Try.underlying61 (kint hp) (Mc.nokey (w := w) (base := base) (b := b) hn) (zCaps w) false, Ow.nil _ _ _ _, rfl⟩
theorem Mc.inj {w : World} {base b : Nat} {K : List Kn} (h : Mc w base b K) {x y : Kn} (hx : x ∈ K) (hy : y ∈ K) (e : x.p = y.p) : x = y := by
  have hn := h.out.nd
  clear h
  induction K with
  | nil => cases hx
  | cons z K ih =>
    simp only [List.map_cons, List.nodup_cons, List.map_map] at hn
    have hz : ∀ q ∈ K, q.p ≠ z.p := fun q hq e => hn.1 (List.mem_map.2 ⟨q, hq, by simp [e]⟩)
    rcases List.mem_cons.1 hx with h1 | h1 <;> rcases List.mem_cons.1 hy with h2 | h2
    · rw [h1, h2]
    · exact absurd (by rw [← h1, e]) (hz y h2)
    · exact absurd (by rw [← h2, e]) (hz x h1)
    · exact ih h1 h2 (by rw [List.map_map]; exact hn.2)
/-- Another list for a process, whose row may have been written to meanwhile. -/
theorem Mc.set {S : Nat → Prop} {w w7 : World} {base b : Nat} {K : List Kn} (h : Mc w base b K) {p : Int} (hp : I64 p) {s s' : Sl} {l l' : List Cp} (hl : Lsl K p s l) (hb : But S w w7) (hSb : ¬ S b) (hS : ∀ j, S j → Blk s.a j) (ho : Ow w7 base 31 3 s'.a s'.n s'.c (capsL l')) (hl' : l'.length = s'.n) (hd : ∀ j, Blk s'.a j → Blk s.a j ∨ ∀ k ∈ K, ¬ Blk k.s.a j) :
    ∃ w8 K', (Instr.mapUpdate 61 (.map (some b)) (.int .i64 p) (.slice s'.a s'.n s'.c)).run Try.prog w7 = .ok () w8 ∧ Mc w8 base b K' ∧ (∀ x, x ∈ K' ↔ x = ⟨p, s', l'⟩ ∨ (x ∈ K ∧ x.p ≠ p)) ∧ But (· = b) w7 w8 := by
  have hout := h.out.but hb hSb
  have hrow : ∀ {a : Option Addr} {n cap : Nat} {L : List Value}, Ow w7 base 31 3 a n cap L → ∀ j, Blk a j → ¬ j = b := fun {a} {n} {cap} {L} ho j hj e => by
    obtain ⟨es, clk, h1, _⟩ := hout.ex
    subst e
    exact map_ne h1 ho hj
  rcases hl with hk | ⟨rfl, rfl, hn⟩
  · obtain ⟨K1, K2, hK⟩ := List.append_of_mem hk
    have hdis := h.dis
    rw [hK, List.pairwise_append, List.pairwise_cons] at hdis
    have hK1 : ∀ x ∈ K1, ∀ j, Blk x.s.a j → ¬ Blk s.a j := fun x hx j hj => hdis.2.2 x hx _ List.mem_cons_self j hj
    have hK2 : ∀ x ∈ K2, ∀ j, Blk x.s.a j → ¬ Blk s.a j := fun x hx j hj hj2 => hdis.2.1.1 x hx j hj2 hj
    have hin1 : ∀ x ∈ K1, x ∈ K := fun x hx => by rw [hK]; simp [hx]
    have hin2 : ∀ x ∈ K2, x ∈ K := fun x hx => by rw [hK]; simp [hx]
    have hp1 : ∀ x ∈ K1, x.p ≠ p := fun x hx e => by
      have := h.inj (hin1 x hx) hk e
      subst this
      have hnd := h.out.nd
      rw [hK] at hnd
      simp only [List.map_append, List.map_cons, List.map_map, List.nodup_append] at hnd
      exact hnd.2.2 _ (List.mem_map.2 ⟨_, hx, rfl⟩) _ List.mem_cons_self rfl
    have hp2 : ∀ x ∈ K2, x.p ≠ p := fun x hx e => by
      have := h.inj (hin2 x hx) hk e
      subst this
      have hnd := h.out.nd
      rw [hK] at hnd
      simp only [List.map_append, List.map_cons, List.map_map, List.nodup_append, List.nodup_cons] at hnd
      exact hnd.2.1.1 (List.mem_map.2 ⟨_, hx, rfl⟩)
    have hmem : (Value.int .i64 p, Value.slice s.a s.n s.c) ∈ K.map (fun k => (Value.int .i64 k.p, Value.slice k.s.a k.s.n k.s.c)) := List.mem_map.2 ⟨_, hk, rfl⟩
    obtain ⟨w8, r8, m8, b8, s8⟩ := hout.set ikey Try.underlying61 hmem (.slice s'.a s'.n s'.c)
    have e8 : upE (K.map (fun k => (Value.int .i64 k.p, Value.slice k.s.a k.s.n k.s.c))) (.int .i64 p) (.slice s'.a s'.n s'.c) = (K1 ++ (⟨p, s', l'⟩ : Kn) :: K2).map (fun k => (Value.int .i64 k.p, Value.slice k.s.a k.s.n k.s.c)) := by
      have hnd := h.out.nd
      rw [hK, List.map_append, List.map_cons] at hnd ⊢
      rw [upE_at hnd]
      simp
    rw [e8] at m8
    have hR : ∀ x, x ∈ K1 ∨ x ∈ K2 → Ow w8 base 31 3 x.s.a x.s.n x.s.c (capsL x.l) ∧ x.l.length = x.s.n := fun x hx => by
      have hxK : x ∈ K := by rcases hx with hx | hx; exact hin1 x hx; exact hin2 x hx
      have hxd : ∀ j, Blk x.s.a j → ¬ Blk s.a j := by rcases hx with hx | hx; exact hK1 x hx; exact hK2 x hx
      have o7 := (h.each x hxK).1.but hb (fun j hj hs => hxd j hj (hS j hs))
      exact ⟨o7.but b8 (hrow o7), (h.each x hxK).2⟩
    have hnw : ∀ x, x ∈ K1 ∨ x ∈ K2 → ∀ j, Blk x.s.a j → ¬ Blk s'.a j := fun x hx j hj hj2 => by
      rcases hd j hj2 with h1 | h1
      · rcases hx with hx | hx
        · exact hK1 x hx j hj h1
        · exact hK2 x hx j hj h1
      · rcases hx with hx | hx
        · exact h1 x (hin1 x hx) hj
        · exact h1 x (hin2 x hx) hj
    refine ⟨w8, _, r8, ⟨m8, fun x hx => ?_, ?_⟩, fun x => ⟨fun hx => ?_, fun hx => ?_⟩, b8⟩
    · rcases List.mem_append.1 hx with hx | hx
      · exact hR x (.inl hx)
      · rcases List.mem_cons.1 hx with rfl | hx
        · exact ⟨ho.but b8 (hrow ho), hl'⟩
        · exact hR x (.inr hx)
    · rw [List.pairwise_append, List.pairwise_cons]
      refine ⟨hdis.1, ⟨fun y hy j hj hj2 => hnw y (.inr hy) j hj2 hj, hdis.2.1.2⟩, fun x hx y hy j hj hj2 => ?_⟩
      rcases List.mem_cons.1 hy with rfl | hy
      · exact hnw x (.inl hx) j hj hj2
      · exact hdis.2.2 x hx y (List.mem_cons_of_mem _ hy) j hj hj2
    · rcases List.mem_append.1 hx with hx | hx
      · exact .inr ⟨hin1 x hx, hp1 x hx⟩
      · rcases List.mem_cons.1 hx with rfl | hx
        · exact .inl rfl
        · exact .inr ⟨hin2 x hx, hp2 x hx⟩
    · rcases hx with rfl | ⟨hx, hxp⟩
      · simp
      · rw [hK] at hx
        rcases List.mem_append.1 hx with hx | hx
        · exact List.mem_append.2 (.inl hx)
        · rcases List.mem_cons.1 hx with rfl | hx
          · exact absurd rfl hxp
          · exact List.mem_append.2 (.inr (List.mem_cons_of_mem _ hx))
  · have hS0 : ∀ j, ¬ S j := fun j hs => by obtain ⟨x, hx, _⟩ := hS j hs; cases hx
    obtain ⟨w8, r8, m8, b8, s8⟩ := hout.add ikey Try.underlying61 (kint hp) (Mc.nokey (w := w) (base := base) (b := b) hn) (.slice s'.a s'.n s'.c)
    have hnw : ∀ x ∈ K, ∀ j, Blk x.s.a j → ¬ Blk s'.a j := fun x hx j hj hj2 => by
      rcases hd j hj2 with ⟨y, hy, _⟩ | h1
      · cases hy
      · exact h1 x hx hj
    refine ⟨w8, K ++ [⟨p, s', l'⟩], r8, ⟨by rw [List.map_append]; exact m8, fun x hx => ?_, ?_⟩, fun x => ⟨fun hx => ?_, fun hx => ?_⟩, b8⟩
    · rcases List.mem_append.1 hx with hx | hx
      · have o7 := (h.each x hx).1.but hb (fun j hj hs => hS0 j hs)
        exact ⟨o7.but b8 (hrow o7), (h.each x hx).2⟩
      · rw [List.mem_singleton.1 hx]
        exact ⟨ho.but b8 (hrow ho), hl'⟩
    · rw [List.pairwise_append]
      refine ⟨h.dis, List.pairwise_singleton _ _, fun x hx y hy j hj hj2 => ?_⟩
      rw [List.mem_singleton.1 hy] at hj2
      exact hnw x hx j hj hj2
    · rcases List.mem_append.1 hx with hx | hx
      · exact .inr ⟨hx, hn x hx⟩
      · exact .inl (List.mem_singleton.1 hx)
    · rcases hx with rfl | ⟨hx, hxp⟩
      · simp
      · exact List.mem_append.2 (.inl hx)
/-- A process's list goes. -/
theorem Mc.drop {w : World} {base b : Nat} {K : List Kn} (h : Mc w base b K) {p : Int} (hp : I64 p) (ty kt : TypeId) :
    ∃ w', (Builtin.delete_ #[61, kt] ty #[.map (some b), .int .i64 p]).run Try.prog w = .ok (.tuple #[]) w' ∧ Mc w' base b (K.filter (fun k => decide (k.p ≠ p))) ∧ But (· = b) w w' := by
  obtain ⟨w', hr, hm, hb, hs⟩ := h.out.del ikey Try.underlying61 (kint hp) ty kt
  have hE : cutE (K.map fun k => (Value.int .i64 k.p, Value.slice k.s.a k.s.n k.s.c)) (.int .i64 p) = (K.filter (fun k => decide (k.p ≠ p))).map fun k => (Value.int .i64 k.p, Value.slice k.s.a k.s.n k.s.c) := by
    unfold cutE
    rw [List.filter_map]
    refine congrArg (List.map _) (List.filter_congr (fun g hg => ?_))
    simp [Function.comp]
  rw [hE] at hm
  refine ⟨w', hr, ⟨hm, fun k hk => ?_, h.dis.sublist List.filter_sublist⟩, hb⟩
  have hk' := (List.mem_filter.1 hk).1
  refine ⟨(h.each k hk').1.but hb (fun j hj e => ?_), (h.each k hk').2⟩
  obtain ⟨es, clk, h1, _⟩ := h.out.ex
  subst e
  exact map_ne h1 (h.each k hk').1 hj
/-- The book behind a turn of its lists. -/
theorem Bw.lists_to {S : Nat → Prop} {w w' : World} {m : Bm} {I' : List Kn} (h : Bw w m) (hb : But S w w') (hS : ∀ j, S j → j = m.bi ∨ ∃ k ∈ m.I, Blk k.s.a j) (hM : Mc w' (m.g + 1) m.bi I') (hn : ∀ x ∈ I', ∀ j, Blk x.s.a j → (∃ k ∈ m.I, Blk k.s.a j) ∨ ¬ Owb m j) : Bw w' { m with I := I' } ∧ But (Owb m) w w' ∧ ∀ j, Owb { m with I := I' } j → Owb m j ∨ ∃ x ∈ I', Blk x.s.a j := by
  obtain ⟨n1, n2, n3, n4, n5⟩ := bi_ne h.dis
  have hnS : ∀ j ∈ m.blks, j ≠ m.bi → ¬ S j := fun j hj hne hs => by
    rcases hS j hs with e | ⟨k, hk, hj2⟩
    · exact hne e
    · exact h.cells (h.lists.each k hk).1 (by omega) j hj2 hj
  refine ⟨⟨h.bx.but hb (hnS _ (by simp [Bm.blks]) n3), h.live.but hb (fun j hj => hnS j (List.mem_append.2 (.inl hj)) (n1 j hj)), h.laid.but hb (fun j hj => hnS j (List.mem_append.2 (.inr (List.mem_append.2 (.inr (rest_a hj))))) (n5 j hj)), h.told.but hb (fun j hj => hnS j (List.mem_append.2 (.inr (List.mem_append.2 (.inl hj)))) (n2 j hj)), hM, ⟨h.known.out.but hb (hnS _ (by simp [Bm.blks]) n4), fun k hk => ⟨(h.known.each k hk).1.but hb (fun j hj hs => ?_), (h.known.each k hk).2⟩, h.known.dis⟩, h.dis, fun j hj => Nat.lt_of_lt_of_le (h.lo j hj) hb.size, fun x hx y hy j hj hj2 => ?_⟩, hb.mono (fun j hs => ?_), fun j hj => ?_⟩
  · rcases hS j hs with rfl | ⟨x, hx, hj2⟩
    · exact h.cells (h.known.each k hk).1 (by omega) _ hj (by simp [Bm.blks])
    · exact h.ap x hx k hk j hj2 hj
  · rcases hn x hx j hj with ⟨k, hk, hj3⟩ | h1
    · exact h.ap k hk y hy j hj3 hj2
    · exact h1 (.inr (.inr ⟨y, hy, hj2⟩))
  · rcases hS j hs with rfl | ⟨x, hx, hj2⟩
    · exact .inl (by simp [Bm.blks])
    · exact .inr (.inl ⟨x, hx, hj2⟩)
  · rcases hj with hj | ⟨x, hx, hj⟩ | hj
    · exact .inl (.inl hj)
    · exact .inr ⟨x, hx, hj⟩
    · exact .inl (.inr (.inr hj))
theorem Bw.known_to {S : Nat → Prop} {w w' : World} {m : Bm} {K' : List Kn} (h : Bw w m) (hb : But S w w') (hS : ∀ j, S j → j = m.bk ∨ ∃ k ∈ m.K, Blk k.s.a j) (hM : Mc w' (m.g + 1) m.bk K') (hn : ∀ x ∈ K', ∀ j, Blk x.s.a j → (∃ k ∈ m.K, Blk k.s.a j) ∨ ¬ Owb m j) : Bw w' { m with K := K' } ∧ But (Owb m) w w' ∧ ∀ j, Owb { m with K := K' } j → Owb m j ∨ ∃ x ∈ K', Blk x.s.a j := by
  obtain ⟨n1, n2, n3, n4, n5⟩ := bk_ne h.dis
  have hnS : ∀ j ∈ m.blks, j ≠ m.bk → ¬ S j := fun j hj hne hs => by
    rcases hS j hs with e | ⟨k, hk, hj2⟩
    · exact hne e
    · exact h.cells (h.known.each k hk).1 (by omega) j hj2 hj
  refine ⟨⟨h.bx.but hb (hnS _ (by simp [Bm.blks]) n3), h.live.but hb (fun j hj => hnS j (List.mem_append.2 (.inl hj)) (n1 j hj)), h.laid.but hb (fun j hj => hnS j (List.mem_append.2 (.inr (List.mem_append.2 (.inr (rest_a hj))))) (n5 j hj)), h.told.but hb (fun j hj => hnS j (List.mem_append.2 (.inr (List.mem_append.2 (.inl hj)))) (n2 j hj)), ⟨h.lists.out.but hb (hnS _ (by simp [Bm.blks]) n4), fun k hk => ⟨(h.lists.each k hk).1.but hb (fun j hj hs => ?_), (h.lists.each k hk).2⟩, h.lists.dis⟩, hM, h.dis, fun j hj => Nat.lt_of_lt_of_le (h.lo j hj) hb.size, fun x hx y hy j hj hj2 => ?_⟩, hb.mono (fun j hs => ?_), fun j hj => ?_⟩
  · rcases hS j hs with rfl | ⟨x, hx, hj2⟩
    · exact h.cells (h.lists.each k hk).1 (by omega) _ hj (by simp [Bm.blks])
    · exact h.ap k hk x hx j hj hj2
  · rcases hn y hy j hj2 with ⟨k, hk, hj3⟩ | h1
    · exact h.ap x hx k hk j hj hj3
    · exact h1 (.inr (.inl ⟨x, hx, hj⟩))
  · rcases hS j hs with rfl | ⟨x, hx, hj2⟩
    · exact .inl (by simp [Bm.blks])
    · exact .inr (.inr ⟨x, hx, hj2⟩)
  · rcases hj with hj | hj | ⟨x, hx, hj⟩
    · exact .inl (.inl hj)
    · exact .inl (.inr (.inl hj))
    · exact .inr ⟨x, hx, hj⟩
/-! What a book says, as functions. -/
structure Bv where
  n : Int
  live : Int → Nat × Nat → Option Tn
  laid : Int → Int → Option (List Lk)
  told : Int → List Nat → Option (List Lk)
  lists : Int → List Cp
  known : Int → List Cp
  ct : Nat
section
variable {κ α : Type}
structure Vw (key : κ → Value) (R : Value → α → Prop) (ok : κ → Prop) (G : List Im) (f : Int → κ → Option α) : Prop where
  fwd : ∀ p x, In G p x → ∃ k a, ok k ∧ x.1 = key k ∧ f p k = some a ∧ R x.2 a
  bwd : ∀ p k a, f p k = some a → ∃ x, In G p x ∧ x.1 = key k
def up2 [DecidableEq κ] (f : Int → κ → Option α) (p : Int) (k : κ) (a : Option α) : Int → κ → Option α := fun q j => if q = p ∧ j = k then a else f q j
variable {key : κ → Value} {R : Value → α → Prop} {ok : κ → Prop} {G G' : List Im} {f : Int → κ → Option α}
theorem Vw.put [DecidableEq κ] (h : Vw key R ok G f) {p : Int} {k : κ} {v : Value} {a : α} (hin : ∀ q x, In G' q x ↔ (q = p ∧ x = (key k, v)) ∨ (In G q x ∧ ¬ (q = p ∧ x.1 = key k))) (hinj : ∀ j, ok j → key j = key k → j = k) (hk : ok k) (hR : R v a) (hinj2 : ∀ j, key j = key k → j = k) : Vw key R ok G' (up2 f p k (some a)) := by
  refine ⟨fun q x hx => ?_, fun q j b hb => ?_⟩
  · rcases (hin q x).1 hx with ⟨rfl, rfl⟩ | ⟨h1, h2⟩
    · exact ⟨k, a, hk, rfl, by simp [up2], hR⟩
    · obtain ⟨j, b, hj, e, hf, hr⟩ := h.fwd q x h1
      refine ⟨j, b, hj, e, ?_, hr⟩
      unfold up2
      rw [if_neg]
      · exact hf
      · rintro ⟨rfl, rfl⟩
        exact h2 ⟨rfl, e⟩
  · unfold up2 at hb
    split at hb
    · rename_i e
      obtain ⟨rfl, rfl⟩ := e
      exact ⟨(key j, v), (hin _ _).2 (.inl ⟨rfl, rfl⟩), rfl⟩
    · rename_i hne
      obtain ⟨x, hx, e⟩ := h.bwd q j b hb
      exact ⟨x, (hin _ _).2 (.inr ⟨hx, fun h2 => hne ⟨h2.1, hinj2 j (by rw [← e, h2.2])⟩⟩), e⟩
theorem Vw.del [DecidableEq κ] (h : Vw key R ok G f) {p : Int} {k : κ} (hin : ∀ q x, In G' q x ↔ In G q x ∧ ¬ (q = p ∧ x.1 = key k)) (hinj2 : ∀ j, key j = key k → j = k) : Vw key R ok G' (up2 f p k none) := by
  refine ⟨fun q x hx => ?_, fun q j b hb => ?_⟩
  · obtain ⟨h1, h2⟩ := (hin q x).1 hx
    obtain ⟨j, b, hj, e, hf, hr⟩ := h.fwd q x h1
    refine ⟨j, b, hj, e, ?_, hr⟩
    unfold up2
    rw [if_neg]
    · exact hf
    · rintro ⟨rfl, rfl⟩
      exact h2 ⟨rfl, e⟩
  · unfold up2 at hb
    split at hb
    · cases hb
    · rename_i hne
      obtain ⟨x, hx, e⟩ := h.bwd q j b hb
      exact ⟨x, (hin _ _).2 ⟨hx, fun h2 => hne ⟨h2.1, hinj2 j (by rw [← e, h2.2])⟩⟩, e⟩
theorem Vw.cut (h : Vw key R ok G f) {p : Int} (hin : ∀ q x, In G' q x ↔ q ≠ p ∧ In G q x) : Vw key R ok G' (fun q j => if q = p then none else f q j) := by
  refine ⟨fun q x hx => ?_, fun q j b hb => ?_⟩
  · obtain ⟨h1, h2⟩ := (hin q x).1 hx
    obtain ⟨j, b, hj, e, hf, hr⟩ := h.fwd q x h2
    exact ⟨j, b, hj, e, by rw [if_neg h1]; exact hf, hr⟩
  · split at hb
    · cases hb
    · rename_i hne
      obtain ⟨x, hx, e⟩ := h.bwd q j b hb
      exact ⟨x, (hin _ _).2 ⟨hne, hx⟩, e⟩
theorem Vw.look (h : Vw key R ok G f) (p : Int) (k : κ) (hinj : ∀ j, ok j → key j = key k → j = k) : (f p k = none ∧ Gt G p (key k) none) ∨ ∃ a v, f p k = some a ∧ R v a ∧ Gt G p (key k) (some v) := by
  cases hf : f p k with
  | none =>
    refine .inl ⟨rfl, gt_none.2 (fun x hx e => ?_)⟩
    obtain ⟨j, b, hj, e2, hf2, hr⟩ := h.fwd p x hx
    have := hinj j hj (by rw [← e2, e])
    subst this
    rw [hf] at hf2
    cases hf2
  | some a =>
    obtain ⟨x, hx, e⟩ := h.bwd p k a hf
    obtain ⟨j, b, hj, e2, hf2, hr⟩ := h.fwd p x hx
    have := hinj j hj (by rw [← e2, e])
    subst this
    rw [hf] at hf2
    cases hf2
    exact .inr ⟨a, x.2, rfl, hr, gt_some.2 (by rw [← e]; exact hx)⟩
theorem Vw.mono {R' : Value → α → Prop} (h : Vw key R ok G f) (hR : ∀ v a, R v a → R' v a) : Vw key R' ok G f :=
  ⟨fun p x hx => by obtain ⟨k, a, h1, h2, h3, h4⟩ := h.fwd p x hx; exact ⟨k, a, h1, h2, h3, hR _ _ h4⟩, h.bwd⟩
theorem Vw.nil : Vw key R ok [] (fun _ _ => none) := ⟨fun p x ⟨g, hg, _⟩ => (by cases hg), fun p k a h => by cases h⟩
end
/-- Lists by a process, as a function. -/
structure Vl (K : List Kn) (f : Int → List Cp) : Prop where
  fwd : ∀ k ∈ K, k.l = f k.p ∧ ∀ c ∈ k.l, c.far
  bwd : ∀ p, (∀ k ∈ K, k.p ≠ p) → f p = []
def up1 (f : Int → List Cp) (p : Int) (l : List Cp) : Int → List Cp := fun q => if q = p then l else f q
theorem Vl.look {K : List Kn} {f : Int → List Cp} (h : Vl K f) (p : Int) : ∃ s, Lsl K p s (f p) ∧ ∀ c ∈ f p, c.far := by
  obtain ⟨s, l, hl⟩ := Lsl.some_of K p
  rcases hl with hk | ⟨rfl, rfl, hn⟩
  · obtain ⟨e, hf⟩ := h.fwd _ hk
    simp only at e hf
    rw [← e]
    exact ⟨s, .inl hk, hf⟩
  · rw [h.bwd p hn]
    exact ⟨_, .inr ⟨rfl, rfl, hn⟩, fun c hc => by cases hc⟩
theorem Vl.set {K K' : List Kn} {f : Int → List Cp} (h : Vl K f) {p : Int} {s : Sl} {l : List Cp} (hin : ∀ x, x ∈ K' ↔ x = ⟨p, s, l⟩ ∨ (x ∈ K ∧ x.p ≠ p)) (hf : ∀ c ∈ l, c.far) : Vl K' (up1 f p l) := by
  refine ⟨fun k hk => ?_, fun q hq => ?_⟩
  · rcases (hin k).1 hk with rfl | ⟨h1, h2⟩
    · exact ⟨by simp [up1], hf⟩
    · unfold up1
      rw [if_neg h2]
      exact h.fwd k h1
  · have hne : q ≠ p := fun e => hq ⟨p, s, l⟩ ((hin _).2 (.inl rfl)) e.symm
    unfold up1
    rw [if_neg hne]
    exact h.bwd q (fun k hk e => hq k ((hin k).2 (.inr ⟨hk, fun e2 => hne (e.symm.trans e2)⟩)) e)
theorem Vl.drop {K : List Kn} {f : Int → List Cp} (h : Vl K f) (p : Int) : Vl (K.filter (fun k => decide (k.p ≠ p))) (up1 f p []) := by
  refine ⟨fun k hk => ?_, fun q hq => ?_⟩
  · have hk' := List.mem_filter.1 hk
    have hne : k.p ≠ p := by simpa using hk'.2
    unfold up1
    rw [if_neg hne]
    exact h.fwd k hk'.1
  · unfold up1
    split
    · rfl
    · rename_i hne
      exact h.bwd q (fun k hk e => hq k (List.mem_filter.2 ⟨hk, by rw [e]; simpa using hne⟩) e)
theorem Vl.nil : Vl [] (fun _ => []) := ⟨fun k hk => (by cases hk), fun _ _ => rfl⟩
/-! The book. -/
def lkOk (x : Lk) : Prop := x.c.far ∧ hasF x.c = true ∧ I64 x.t ∧ I64 x.b ∧ I64 x.s ∧ I64 x.kd
def RT (w : World) (v : Value) (ls : List Lk) : Prop := ∃ k, v = .pointer (some ⟨k, 0, none⟩) ∧ Tls w (some ⟨k, 0, none⟩) ls ∧ ∀ x ∈ ls, lkOk x
def RL (v : Value) (t : Tn) : Prop := v = t.v ∧ U64 t.h ∧ U64 t.l ∧ U64 t.ph ∧ U64 t.pl ∧ I64 t.r ∧ I64 t.s
abbrev wkV (k : Nat × Nat) : Value := wdV k.1 k.2
abbrev wkOk (k : Nat × Nat) : Prop := U64 k.1 ∧ U64 k.2
abbrev ikV (i : Int) : Value := .int .i64 i
def fmOk (F : List Nat) : Prop := F.length = 24 ∧ ∀ x ∈ F, x < 256
theorem wk_inj {j k : Nat × Nat} (h : wkV j = wkV k) : j = k := by
  obtain ⟨h1, h2⟩ := wdV_inj h
  exact Prod.ext h1 h2
theorem ik_inj {j k : Int} (h : ikV j = ikV k) : j = k := by simpa using h
structure Bk (w : World) (m : Bm) (B : Bv) : Prop where
  bw : Bw w m
  n : m.n = B.n
  live : Vw wkV RL wkOk m.L B.live
  laid : Vw ikV (RT w) I64 m.A B.laid
  told : Vw fmV (RT w) fmOk m.T B.told
  lists : Vl m.I B.lists
  known : Vl m.K B.known
  kne : ∀ k ∈ m.K, 0 < k.s.n
  cnt : ∀ g ∈ m.L, g.E.length ≤ B.ct
theorem RT.but {S : Nat → Prop} {w w' : World} {m : Bm} (h : Bw w m) (hb : But S w w') (hS : ∀ j, S j → Owb m j) {v : Value} {ls : List Lk} (hr : RT w v ls) : RT w' v ls := by
  obtain ⟨k, e, ht, ho⟩ := hr
  exact ⟨k, e, Tls.but h hb hS ht, ho⟩
theorem Bk.later {w w' : World} {m : Bm} {B : Bv} (h : Bk w m B) (hb : Below w.heap.size w w') : Bk w' m B :=
  ⟨h.bw.later hb, h.n, h.live, h.laid.mono (fun v a hr => hr.but h.bw (But.of (S := fun _ => False) hb) (fun _ h => h.elim)), h.told.mono (fun v a hr => hr.but h.bw (But.of (S := fun _ => False) hb) (fun _ h => h.elim)), h.lists, h.known, h.kne, h.cnt⟩
theorem Bk.drew {w : World} {m : Bm} {B : Bv} (h : Bk w m B) : Bk w.drew m B := h.later (Below.refl _ _).drew
end Go.Proofs.Yticgammbjcdobaa
