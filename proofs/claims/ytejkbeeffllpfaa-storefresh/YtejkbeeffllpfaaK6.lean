import Derived.Test.YtejkbeeffllpfaaK5
namespace Go.Proofs.Ytejkbeeffllpfaa
open Go.RowKit
set_option linter.unusedVariables false

/-- The list from an element on. -/
theorem slice_from (t e : TypeId) (hu : Try.prog.underlying t = some (.slice (Try.prog.elem t))) (hs : ∀ W : World, (sizeOf (Try.prog.elem t)).run Try.prog W = .ok 1 W) (a : Option Addr) (r cap f : Nat) (hf : f ≤ r) :
    ∃ a', (∀ W : World, (Instr.sliceAt t (.slice a r cap) (some (.int .i64 (f : Int))) none none).run Try.prog W = .ok (.slice a' (r - f) (cap - f)) W) ∧ (cap = f ∧ a' = a ∨ a' = a.map (·.add f)) := by
  have h : ∀ W : World, (Instr.sliceAt t (.slice a r cap) (some (.int .i64 (f : Int))) none none).run Try.prog W = .ok (sliced a f r cap 1) W := fun W => by
    rw [run_sliceAt_slice W t _ _ _ _ hu, run_slice_l W t a r cap hu .i64 (f : Int) (by omega) (by omega), hs]
    simp
  by_cases hc : cap = f
  · exact ⟨a, fun W => by rw [h W]; simp [sliced, hc], .inl ⟨hc, rfl⟩⟩
  · exact ⟨a.map (·.add f), fun W => by rw [h W]; simp [sliced, hc], .inr rfl⟩
theorem add_add (x : Addr) (i j : Nat) : (x.add i).add j = x.add (i + j) := by
  unfold Addr.add
  by_cases hi : i = 0
  · subst hi
    simp
  · by_cases hj : j = 0
    · subst hj
      simp
    · rw [if_neg hi, if_neg hj, if_neg (by omega)]
      simp [Nat.add_assoc]
theorem Row.from {w : World} {a a' : Option Addr} {r cap f : Nat} {L : List Value} (h : Row w a r cap L) (hf : f ≤ r) (ha : cap = f ∧ a' = a ∨ a' = a.map (·.add f)) : Row w a' (r - f) (cap - f) (L.drop f) ∧ ∀ k, Blk a' k → Blk a k := by
  have hc := h.cap_
  rcases ha with ⟨e, rfl⟩ | rfl
  · have hrf : r = f := by omega
    refine ⟨⟨by rw [List.length_drop, h.len], by omega, fun _ => by omega, fun x hx j u hu => ?_, fun u hu => h.one u (List.mem_of_mem_drop hu)⟩, fun _ h => h⟩
    rw [List.drop_of_length_le (by rw [h.len]; omega)] at hu
    cases hu
  · refine ⟨⟨by rw [List.length_drop, h.len], by omega, fun e => ?_, fun x hx j u hu => ?_, fun u hu => h.one u (List.mem_of_mem_drop hu)⟩, fun k hk => ?_⟩
    · cases a with
      | none => have := h.none_ rfl; omega
      | some x => cases e
    · cases a with
      | none => cases hx
      | some y =>
        simp only [Option.map_some, Option.some.injEq] at hx
        subst hx
        rw [add_add]
        exact h.cells y rfl (f + j) u (by rw [← List.getElem?_drop]; exact hu)
    · obtain ⟨x, hx, rfl⟩ := hk
      cases a with
      | none => cases hx
      | some y =>
        simp only [Option.map_some, Option.some.injEq] at hx
        subst hx
        exact ⟨y, rfl, (add_block y f).symm⟩
theorem u8s_drop (L : List Nat) (k : Nat) : (u8s L).drop k = u8s (L.drop k) := by simp [u8s, List.map_drop]
theorem u8s_take (L : List Nat) (k : Nat) : (u8s L).take k = u8s (L.take k) := by simp [u8s, List.map_take]
theorem und30 : Try.prog.underlying 30 = some (.slice (Try.prog.elem 30)) := by kernel_rfl
theorem size_el30 (W : World) : (sizeOf (Try.prog.elem 30)).run Try.prog W = .ok 1 W := by
  have e : Try.prog.elem 30 = 5 := by kernel_rfl
  obtain ⟨i, hi, hz0, hz1, hz2⟩ := info_parts info5
  rw [e]
  simp [sizeOf, typeInfo, hi, hz1]
/-- What of the bytes is written up to a place. -/
def Wrote (pages : List Nat) (B B' : Nat → Nat → Nat) (off p : Nat) (D : List Nat) : Prop :=
  (∀ j, j < 64 * pages.length → B' (pages.getD (j / 64) 0) (j % 64) = if off ≤ j ∧ j < p then D.getD (j - off) 0 else B (pages.getD (j / 64) 0) (j % 64)) ∧ ∀ q x, ¬ q ∈ pages → B' q x = B q x
theorem wrote_start (pages : List Nat) (B : Nat → Nat → Nat) (off : Nat) (D : List Nat) : Wrote pages B B off off D :=
  ⟨fun j hj => by rw [if_neg (by omega)], fun _ _ _ => rfl⟩
theorem getD_mem {l : List Nat} {i : Nat} (h : i < l.length) : l.getD i 0 ∈ l := by
  rw [List.getD_eq_getElem?_getD, List.getElem?_eq_getElem h]
  exact List.getElem_mem _
theorem getD_inj {l : List Nat} (hn : l.Nodup) {i j : Nat} (hi : i < l.length) (hj : j < l.length) (h : l.getD i 0 = l.getD j 0) : i = j := by
  rw [List.getD_eq_getElem?_getD, List.getD_eq_getElem?_getD, List.getElem?_eq_getElem hi, List.getElem?_eq_getElem hj] at h
  simp only [Option.getD_some] at h
  unfold List.Nodup at hn
  rw [List.pairwise_iff_getElem] at hn
  rcases Nat.lt_trichotomy i j with h1 | h1 | h1
  · exact absurd h (hn i j hi hj h1)
  · exact h1
  · exact absurd h.symm (hn j i hj hi h1)
theorem wrote_next {pages : List Nat} {B B' : Nat → Nat → Nat} {off k i : Nat} {D : List Nat} (hn : pages.Nodup) (hk : D.length = k) (hp : off + k ≤ 64 * pages.length) (h : pos off k i < off + k) (hw : Wrote pages B B' off (pos off k i) D) :
    Wrote pages B (wrB B' (pages.getD (off / 64 + i) 0) (pos off k i % 64) ((D.drop (pos off k i - off)).take (pos off k (i + 1) - pos off k i))) off (pos off k (i + 1)) D := by
  have h1 := pos_div h
  have h2 := pos_next h
  have h3 := pos_le off k i
  have hl : ((D.drop (pos off k i - off)).take (pos off k (i + 1) - pos off k i)).length = pos off k (i + 1) - pos off k i := by
    rw [List.length_take, List.length_drop]
    omega
  generalize pos off k i = p at *
  generalize pos off k (i + 1) = p2 at *
  rw [← h1]
  refine ⟨fun j hj => ?_, fun q x hq => ?_⟩
  · unfold wrB
    rw [hl]
    by_cases e : j / 64 = p / 64
    · rw [e]
      by_cases e2 : p ≤ j ∧ j < p2
      · rw [if_pos ⟨rfl, by omega, by omega⟩, if_pos (by omega)]
        rw [List.getD_eq_getElem?_getD, List.getElem?_take, if_pos (by omega), List.getElem?_drop, List.getD_eq_getElem?_getD]
        congr 2
        omega
      · rw [if_neg (by omega)]
        have := hw.1 j hj
        rw [e] at this
        rw [this]
        by_cases e3 : off ≤ j ∧ j < p
        · rw [if_pos e3, if_pos (by omega)]
        · rw [if_neg e3, if_neg (by omega)]
    · rw [if_neg (fun e2 => e (getD_inj hn (by omega) (by omega) e2.1)), hw.1 j hj]
      by_cases e3 : off ≤ j ∧ j < p
      · rw [if_pos e3, if_pos (by omega)]
      · rw [if_neg e3, if_neg (by omega)]
  · unfold wrB
    rw [if_neg (fun e => hq (by rw [e.1]; exact getD_mem (by omega)))]
    exact hw.2 q x hq
/-- The object behind a write. -/
def putL (L D : List Nat) (off : Nat) : List Nat := L.take off ++ D ++ L.drop (off + D.length)
theorem putL_length {L D : List Nat} {off : Nat} (h : off + D.length ≤ L.length) : (putL L D off).length = L.length := by
  simp [putL]
  omega
theorem putL_get {L D : List Nat} {off : Nat} (h : off + D.length ≤ L.length) (j : Nat) : (putL L D off).getD j 0 = if off ≤ j ∧ j < off + D.length then D.getD (j - off) 0 else L.getD j 0 := by
  unfold putL
  simp only [List.getD_eq_getElem?_getD]
  have hl : (L.take off).length = off := by rw [List.length_take]; omega
  by_cases h1 : j < off
  · rw [if_neg (by omega), List.append_assoc, List.getElem?_append_left (by omega), List.getElem?_take, if_pos h1]
  · by_cases h2 : j < off + D.length
    · rw [if_pos (by omega), List.append_assoc, List.getElem?_append_right (by omega), List.getElem?_append_left (by omega), hl]
    · rw [if_neg (by omega), List.getElem?_append_right (by rw [List.length_append, hl]; omega), List.getElem?_drop, List.length_append, hl]
      congr 2
      omega
def setO (id : Int) (off : Nat) (D : List Nat) (o : Ob) : Ob := if o.id = id then { o with data := putL o.data D off } else o
theorem setO_id (id : Int) (off : Nat) (D : List Nat) (o : Ob) : (setO id off D o).id = o.id := by unfold setO; split <;> rfl
theorem setO_pages (id : Int) (off : Nat) (D : List Nat) (o : Ob) : (setO id off D o).pages = o.pages := by unfold setO; split <;> rfl
theorem setO_adr (id : Int) (off : Nat) (D : List Nat) (o : Ob) : (setO id off D o).adr = o.adr := by unfold setO; split <;> rfl
theorem allP_setO (id : Int) (off : Nat) (D : List Nat) (Os : List Ob) : allP (Os.map (setO id off D)) = allP Os := by
  unfold allP
  rw [List.flatMap_map]
  congr 1
  funext o
  exact setO_pages id off D o
theorem at_uniq {Os : List Ob} {id : Int} {o p : Ob} (hr : Os.Pairwise (fun a b => a.id < b.id)) (ho : at? Os id = some o) (hp : p ∈ Os) (e : p.id = id) : p = o := by
  have hom := at_mem ho
  obtain ⟨i, hi, rfl⟩ := List.getElem_of_mem hp
  obtain ⟨j, hj, rfl⟩ := List.getElem_of_mem hom.1
  rw [List.pairwise_iff_getElem] at hr
  have hij : i = j := by
    rcases Nat.lt_trichotomy i j with h | h | h
    · have := hr i j hi hj h; have := hom.2; omega
    · exact h
    · have := hr j i hj hi h; have := hom.2; omega
  subst hij
  rfl
theorem nodup_flat : ∀ {Os : List Ob}, (allP Os).Nodup → (∀ o ∈ Os, o.pages.Nodup) ∧ ∀ o ∈ Os, ∀ p ∈ Os, o.id ≠ p.id → ∀ x, x ∈ o.pages → ¬ x ∈ p.pages
  | [], _ => ⟨fun _ h => (by cases h), fun _ h => (by cases h)⟩
  | a :: r, h => by
    have h2 : (a.pages ++ allP r).Nodup := by simpa [allP] using h
    rw [List.nodup_append] at h2
    obtain ⟨n1, n2, n3⟩ := h2
    obtain ⟨i1, i2⟩ := nodup_flat n2
    refine ⟨fun o ho => ?_, fun o ho p hp hne x hx hy => ?_⟩
    · rcases List.mem_cons.1 ho with rfl | h
      · exact n1
      · exact i1 o h
    · rcases List.mem_cons.1 ho with rfl | h1
      · rcases List.mem_cons.1 hp with rfl | h2
        · exact hne rfl
        · exact n3 x hx x (List.mem_flatMap.2 ⟨p, h2, hy⟩) rfl
      · rcases List.mem_cons.1 hp with rfl | h2
        · exact n3 x hy x (List.mem_flatMap.2 ⟨o, h1, hx⟩) rfl
        · exact i2 o h1 p h2 hne x hx hy
theorem mapD_setO {Os : List Ob} {id : Int} {off : Nat} {D : List Nat} (h : ∀ o ∈ Os, o.id = id → off + D.length ≤ o.data.length) : mapD (Os.map (setO id off D)) = mapD Os := by
  unfold mapD
  rw [List.map_map]
  congr 1
  refine List.map_congr_left fun o ho => ?_
  simp only [Function.comp, ent, setO_id]
  congr 2
  unfold Ob.val
  rw [setO_pages, setO_adr]
  have e : (setO id off D o).data.length = o.data.length := by
    unfold setO
    split
    · exact putL_length (h o ho (by assumption))
    · rfl
  rw [e]
theorem rise_setO (id : Int) (off : Nat) (D : List Nat) {Os : List Ob} (h : Os.Pairwise (fun a b => a.id < b.id)) : Os.Pairwise (fun a b => (setO id off D a).id < (setO id off D b).id) := by
  simp only [setO_id]
  exact h
/-- The store behind a write. -/
theorem Sto.write {w w' : World} {s g pb m n room : Nat} {nx : Int} {t : Nat → Bool} {B B' : Nat → Nat → Nat} {Os : List Ob} {id : Int} {o : Ob} {off : Nat} {D : List Nat} (h : Sto w s g pb m n room nx t B Os) (ho : at? Os id = some o) (hle : off + D.length ≤ o.data.length)
    (hA : Arn w' g pb n t B') (hW : Wrote o.pages B B' off (off + D.length) D) (hb : But (· = pb) w w') : Sto w' s g pb m n room nx t B' (Os.map (setO id off D)) := by
  have hm := at_mem ho
  have hall : ∀ p ∈ Os, p.id = id → off + D.length ≤ p.data.length := fun p hp e => by rw [at_uniq h.rise ho hp e]; exact hle
  obtain ⟨n1, n2⟩ := nodup_flat h.nd
  have hmem : ∀ q ∈ Os.map (setO id off D), ∃ p ∈ Os, q = setO id off D p := fun q hq => by
    obtain ⟨p, hp, e⟩ := List.mem_map.1 hq
    exact ⟨p, hp, e.symm⟩
  have hdl : ∀ p ∈ Os, (setO id off D p).data.length = p.data.length := fun p hp => by
    unfold setO
    split
    · exact putL_length (hall p hp (by assumption))
    · rfl
  refine ⟨hA, h.c0.but hb h.sp, h.c1.but hb h.sp, h.c2.but hb h.sp, h.c3.but hb h.sp, ?_, h.sg, h.sp, h.sm, h.gm, h.pm, fun q hq => ?_, fun q hq k hk => ?_, fun q hq => ?_, by rw [allP_setO]; exact h.nd, fun i => by rw [allP_setO]; exact h.tks i, fun q hq j hj => ?_, ?_, fun q hq => ?_, h.nx1, by rw [List.length_map]; exact h.rm, fun q hq => ?_⟩
  · rw [List.length_map, mapD_setO hall]
    exact owns_but hb h.map (fun e => h.pm e.symm)
  · obtain ⟨p, hp, rfl⟩ := hmem q hq
    rw [setO_adr, setO_pages]
    exact (h.rows p hp).but hb (fun k hk => (h.off p hp k hk).2.2.1)
  · obtain ⟨p, hp, rfl⟩ := hmem q hq
    rw [setO_adr] at hk
    obtain ⟨a1, a2, a3, a4, a5⟩ := h.off p hp k hk
    exact ⟨a1, a2, a3, a4, Nat.lt_of_lt_of_le a5 hb.size⟩
  · obtain ⟨p, hp, rfl⟩ := hmem q hq
    rw [setO_pages, hdl p hp]
    exact h.len p hp
  · obtain ⟨p, hp, rfl⟩ := hmem q hq
    rw [hdl p hp] at hj
    rw [setO_pages]
    have hlp := h.len p hp
    have hq : j / 64 < p.pages.length := by unfold needN at hlp; omega
    by_cases e : p.id = id
    · obtain rfl := at_uniq h.rise ho hp e
      unfold setO
      rw [if_pos e, hW.1 j (by omega), putL_get hle j, h.bytes p hp j hj]
    · rw [hW.2 _ _ (n2 p hp o hm.1 (by rw [hm.2]; exact e) _ (getD_mem hq)), h.bytes p hp j hj]
      unfold setO
      rw [if_neg e]
  · rw [List.pairwise_map]
    exact rise_setO id off D h.rise
  · obtain ⟨p, hp, rfl⟩ := hmem q hq
    rw [setO_id]
    exact h.ids p hp
  · obtain ⟨p, hp, rfl⟩ := hmem q hq
    rw [hdl p hp]
    exact h.big p hp
end Go.Proofs.Ytejkbeeffllpfaa
