import Derived.Test.YtlelglfdamakaaaME
namespace Go.Proofs.Ytlelglfdamakaaa.K
open Go.RowKit
set_option linter.unusedVariables false

/-- A put: a capability and its rights. -/
abbrev Pu := Cp × Int
def mk (x : Pu) : Pl := (true, x.1, x.2)
/-- A set's places: what is known, the youngest first; then the free ones. -/
def pls (S : List Pu) : List Pl := S.map mk ++ List.replicate (4 - S.length) fr
def putS (n : Nat) (S : List Pu) (c : Cp) (m : Int) : List Pu := ((c, m) :: S.filter (fun x => x.1 ≠ c)).take n
def getS (S : List Pu) (c : Cp) : Int × Bool :=
  match S.find? (fun x => x.1 = c) with
  | some x => (x.2, true)
  | none => (0, false)
theorem pls_in {S : List Pu} {i : Nat} (h : i < S.length) : (pls S)[i]? = some (mk S[i]) := by
  unfold pls
  rw [List.getElem?_append_left (by simpa using h)]
  simp [h]
theorem pls_out {S : List Pu} {i : Nat} (h : S.length ≤ i) (h4 : i < 4) : (pls S)[i]? = some fr := by
  unfold pls
  rw [List.getElem?_append_right (by simpa using h), List.getElem?_replicate, if_pos (by simp; omega)]
theorem pls_length {S : List Pu} (h : S.length ≤ 4) : (pls S).length = 4 := by simp [pls]; omega
theorem map_er : ∀ (S : List Pu) (i : Nat), (S.eraseIdx i).map mk = (S.map mk).eraseIdx i
  | [], _ => rfl
  | a :: r, 0 => rfl
  | a :: r, i + 1 => by simp only [List.eraseIdx_cons_succ, List.map_cons, map_er r i]
theorem hasP_mk (c : Cp) (x : Pu) : hasP c (mk x) = decide (x.1 = c) := rfl
theorem filter_keep {S : List Pu} {c : Cp} (h : ∀ x ∈ S, x.1 ≠ c) : S.filter (fun x => x.1 ≠ c) = S := List.filter_eq_self.2 (fun x hx => by simpa using h x hx)
theorem filter_erase : ∀ {S : List Pu} (hn : (S.map (·.1)).Nodup) (i : Nat) (h : i < S.length), S.filter (fun x => x.1 ≠ S[i].1) = S.eraseIdx i
  | [], _, i, h => by simp at h
  | a :: r, hn, 0, h => by
    simp only [List.map_cons, List.nodup_cons] at hn
    rw [List.filter_cons_of_neg (by simp)]
    simp only [List.getElem_cons_zero, List.eraseIdx_zero, List.tail_cons]
    exact filter_keep (fun x hx e => hn.1 (List.mem_map.2 ⟨x, hx, e⟩))
  | a :: r, hn, i + 1, h => by
    simp only [List.map_cons, List.nodup_cons] at hn
    have hi : i < r.length := by simpa using h
    have hne : a.1 ≠ (a :: r)[i + 1].1 := fun e => hn.1 (List.mem_map.2 ⟨r[i], List.getElem_mem hi, by simpa using e.symm⟩)
    rw [List.filter_cons_of_pos (by simpa using hne), List.eraseIdx_cons_succ]
    simp only [List.getElem_cons_succ]
    rw [filter_erase hn.2 i hi]
/-- Where c is, or where it would go. -/
theorem spot_pls {S : List Pu} {c : Cp} {n : Nat} (hl : S.length ≤ n) (h1 : 1 ≤ n) (h4 : n ≤ 4) :
    (∃ (i : Nat) (h : i < S.length), S[i].1 = c ∧ S.find? (fun x => x.1 = c) = some S[i] ∧ spotP (pls S) c n = i) ∨ ((∀ x ∈ S, x.1 ≠ c) ∧ S.find? (fun x => x.1 = c) = none ∧ spotP (pls S) c n = n - 1) := by
  cases hf : S.find? (fun x => x.1 = c) with
  | some x =>
    obtain ⟨hx, i, hi, rfl, hj⟩ := List.find?_eq_some_iff_getElem.1 hf
    have hx2 : S[i].1 = c := by simpa using hx
    refine .inl ⟨i, hi, hx2, rfl, spot_at (p := mk S[i]) (by omega) (pls_in hi) (by rw [hasP_mk]; simpa using hx2) (fun j q hji hq => ?_)⟩
    have := hj j hji
    rw [pls_in (by omega)] at hq
    cases hq
    rw [hasP_mk]
    simpa using this
  | none =>
    have hn : ∀ x ∈ S, x.1 ≠ c := fun x hx => by simpa using List.find?_eq_none.1 hf x hx
    refine .inr ⟨hn, rfl, spot_none (fun j q hj hq => ?_) (by rw [pls_length (by omega)]; exact h4)⟩
    by_cases e : j < S.length
    · rw [pls_in e] at hq
      cases hq
      rw [hasP_mk]
      simpa using hn _ (List.getElem_mem e)
    · rw [pls_out (by omega) (by omega)] at hq
      cases hq
      rfl
theorem putS_len {n : Nat} (S : List Pu) (c : Cp) (m : Int) : (putS n S c m).length ≤ n := by unfold putS; rw [List.length_take]; omega
theorem putS_nodup {n : Nat} {S : List Pu} (c : Cp) (m : Int) (h : (S.map (·.1)).Nodup) : ((putS n S c m).map (·.1)).Nodup := by
  unfold putS
  rw [List.map_take]
  refine List.Nodup.sublist (List.take_sublist _ _) ?_
  rw [List.map_cons, List.nodup_cons]
  refine ⟨fun e => ?_, List.Nodup.sublist (List.Sublist.map _ List.filter_sublist) h⟩
  obtain ⟨x, hx, e2⟩ := List.mem_map.1 e
  simpa [e2] using (List.mem_filter.1 hx).2
theorem lead_pls {S : List Pu} {c : Cp} {n : Nat} (m : Int) (hl : S.length ≤ n) (h1 : 1 ≤ n) (h4 : n ≤ 4) (hn : (S.map (·.1)).Nodup) :
    (true, c, m) :: (pls S).eraseIdx (spotP (pls S) c n) = pls (putS n S c m) := by
  rcases spot_pls (c := c) hl h1 h4 with ⟨i, hi, hc, _, hs⟩ | ⟨hno, _, hs⟩
  · rw [hs]
    have e : putS n S c m = (c, m) :: S.eraseIdx i := by
      unfold putS
      rw [← hc, filter_erase hn i hi, List.take_of_length_le (by simp [List.length_eraseIdx, hi]; omega)]
    rw [e]
    unfold pls
    rw [List.eraseIdx_append_of_lt_length (by simpa using hi)]
    simp only [List.map_cons, List.cons_append, List.length_cons, List.length_eraseIdx, if_pos hi]
    rw [show S.length - 1 + 1 = S.length by omega, ← map_er]
    rfl
  · rw [hs]
    unfold putS
    rw [filter_keep hno]
    by_cases e : S.length < n
    · rw [List.take_of_length_le (by simp; omega)]
      unfold pls
      rw [List.eraseIdx_append_of_length_le (by simp; omega), List.eraseIdx_replicate, if_pos (by simp; omega)]
      simp only [List.map_cons, List.cons_append, List.length_cons]
      rw [show 4 - S.length - 1 = 4 - (S.length + 1) by omega]
      rfl
    · have e2 : S.length = n := by omega
      obtain ⟨v, rfl⟩ : ∃ v, n = v + 1 := ⟨n - 1, by omega⟩
      rw [List.take_succ_cons]
      unfold pls
      rw [List.eraseIdx_append_of_lt_length (by simp; omega)]
      simp only [List.map_cons, List.cons_append, List.length_cons, List.length_take, e2]
      rw [show min v (v + 1) + 1 = v + 1 by omega]
      congr 2
      rw [List.map_take, List.eraseIdx_eq_take_drop_succ, List.drop_eq_nil_of_le (by simp; omega), List.append_nil]
      rfl
theorem see_pls {S : List Pu} {c : Cp} {n : Nat} (hl : S.length ≤ n) (h1 : 1 ≤ n) (h4 : n ≤ 4) :
    (match (pls S)[spotP (pls S) c n]? with | some p => (if hasP c p then p.2.2 else 0, hasP c p) | none => ((0 : Int), false)) = getS S c := by
  unfold getS
  rcases spot_pls (c := c) hl h1 h4 with ⟨i, hi, hc, hf, hs⟩ | ⟨hno, hf, hs⟩
  · rw [hs, pls_in hi, hf]
    simp only [hasP_mk, hc]
    simp [mk]
  · rw [hs, hf]
    by_cases e : n - 1 < S.length
    · rw [pls_in e]
      simp only [hasP_mk]
      have := hno _ (List.getElem_mem e)
      simp [this]
    · rw [pls_out (by omega) (by omega)]
      rfl
/-- The sets' places are those of the lists T. -/
structure Fit (n : Nat) (T : Nat → List Pu) (R : Nat → List Pl) : Prop where
  eq : ∀ r, R r = pls (T r)
  len : ∀ r, (T r).length ≤ n
  nd : ∀ r, ((T r).map (·.1)).Nodup
def putT (s n k : Nat) (T : Nat → List Pu) (c : Cp) (m : Int) : Nat → List Pu := if s = 0 then T else fun x => if x = rowN k s c then putS n (T (rowN k s c)) c m else T x
def getT (s k : Nat) (T : Nat → List Pu) (c : Cp) : Int × Bool := if s = 0 then (0, false) else getS (T (rowN k s c)) c
variable {s n k : Nat} {T : Nat → List Pu} {R : Nat → List Pl}
theorem Fit.zero (n : Nat) : Fit n (fun _ => []) R0 := ⟨fun _ => rfl, fun _ => Nat.zero_le _, fun _ => List.nodup_nil⟩
theorem Fit.see (h : Fit n T R) (h1 : 1 ≤ n) (h4 : n ≤ 4) (c : Cp) : see s n k R c = getT s k T c := by
  unfold Go.Proofs.Ytlelglfdamakaaa.K.see getT
  by_cases hs : s = 0
  · rw [if_pos hs, if_pos hs]
  · rw [if_neg hs, if_neg hs, h.eq]
    exact see_pls (h.len _) h1 h4
theorem Fit.put (h : Fit n T R) (h1 : 1 ≤ n) (h4 : n ≤ 4) (c : Cp) (m : Int) : Fit n (putT s n k T c m) (putR s n k R c m) := by
  unfold putT putR
  by_cases hs : s = 0
  · rw [if_pos hs, if_pos hs]; exact h
  · rw [if_neg hs, if_neg hs]
    refine ⟨fun r => ?_, fun r => ?_, fun r => ?_⟩
    · unfold upd
      by_cases e : r = rowN k s c
      · rw [if_pos e]
        rw [if_pos e, h.eq]
        exact lead_pls m (h.len _) h1 h4 (h.nd _)
      · rw [if_neg e]
        rw [if_neg e]
        exact h.eq r
    · split
      · exact putS_len _ _ _
      · exact h.len r
    · split
      · exact putS_nodup _ _ (h.nd _)
      · exact h.nd r
end Go.Proofs.Ytlelglfdamakaaa.K
namespace Go.Proofs.Ytlelglfdamakaaa.K
open Go.RowKit
set_option linter.unusedVariables false
set_option linter.unusedSimpArgs false

/-- The cache in memory, by lists: the youngest of each set first. -/
def Kc (w : World) (g s n k : Nat) (T : Nat → List Pu) (E : Nat) (hi mi : Int) : Prop := E < 256 ∧ ∃ R, Ca w g s n k R (E : Int) hi mi ∧ Fit n T R
def T0 : Nat → List Pu := fun _ => []
variable {w w' : World} {g s n k E : Nat} {T : Nat → List Pu} {hi mi : Int}
theorem Kc.but {S : Nat → Prop} (h : Kc w g s n k T E hi mi) (hb : But S w w') (h1 : ¬ S g) : Kc w' g s n k T E hi mi := by
  obtain ⟨hE, R, hc, hf⟩ := h
  exact ⟨hE, R, hc.but hb h1, hf⟩
theorem Kc.later (h : Kc w g s n k T E hi mi) (hb : Below w.heap.size w w') : Kc w' g s n k T E hi mi := h.but (S := fun _ => False) (But.of hb) (fun h => h)
theorem Kc.lt (h : Kc w g s n k T E hi mi) : g < w.heap.size := by
  obtain ⟨_, R, hc, hf⟩ := h
  exact hc.lt
theorem knew (s n k : Nat) (w : World) (h1 : s ≤ 16) (h2 : 1 ≤ n) (h3 : n ≤ 4) (h4 : k ≤ 64) :
    Calls Try.prog 25 #[.int .i64 (s : Int), .int .i64 (n : Int), .int .i64 (k : Int)] w fun e w' => ∃ g, e = .returned (.tuple #[.pointer (some ⟨g, 0, none⟩), .int .i64 0]) ∧ Kc w' g s n k T0 0 0 0 ∧ w.heap.size ≤ g ∧ Below w.heap.size w w' := by
  refine (new_ok s n k w h1 h2 h3 h4).mono ?_
  rintro e w' ⟨g, rfl, hc, hg, hb⟩
  exact ⟨g, rfl, ⟨by decide, R0, hc, Fit.zero n⟩, hg, hb⟩
theorem kget (h : Kc w g s n k T E hi mi) (c : Cp) (hc : okC c) :
    Calls Try.prog 115 #[.pointer (some ⟨g, 0, none⟩), .agg #[.int .i64 c.1, .int .u64 (c.2.1 : Int), .int .u64 (c.2.2 : Int)]] w fun x w' => x = .returned (.tuple #[.int .i64 (getT s k T c).1, .bool (getT s k T c).2]) ∧ Kc w' g s n k T E (if (getT s k T c).2 then wrap64 (hi + 1) else hi) (if (getT s k T c).2 then mi else wrap64 (mi + 1)) ∧ But (fun k => k = g) w w' := by
  obtain ⟨hE, R, ha, hf⟩ := h
  have := get_any ha c hc
  rw [hf.see ha.n1 ha.n4] at this
  refine this.mono ?_
  rintro e w' ⟨rfl, h2, hb⟩
  exact ⟨rfl, ⟨hE, R, h2, hf⟩, hb⟩
theorem kput (h : Kc w g s n k T E hi mi) (c : Cp) (m : Int) (hc : okC c) :
    Calls Try.prog 76 #[.pointer (some ⟨g, 0, none⟩), .agg #[.int .i64 c.1, .int .u64 (c.2.1 : Int), .int .u64 (c.2.2 : Int)], .int .i64 m] w fun x w' => x = .returned (.tuple #[]) ∧ Kc w' g s n k (putT s n k T c m) E hi mi ∧ But (fun k => k = g) w w' := by
  obtain ⟨hE, R, ha, hf⟩ := h
  refine (put_any ha c m hc).mono ?_
  rintro e w' ⟨rfl, h2, hb⟩
  exact ⟨rfl, ⟨hE, _, h2, hf.put ha.n1 ha.n4 c m⟩, hb⟩
theorem kturn (h : Kc w g s n k T E hi mi) : Calls Try.prog 40 #[.pointer (some ⟨g, 0, none⟩)] w fun x w' => x = .returned (.tuple #[]) ∧ Kc w' g s n k T0 ((E + 1) % 256) hi mi ∧ But (fun k => k = g) w w' := by
  obtain ⟨hE, R, ha, hf⟩ := h
  refine (turn_any ha hE).mono ?_
  rintro e w' ⟨rfl, h2, hb⟩
  exact ⟨rfl, ⟨Nat.mod_lt _ (by decide), R0, h2, Fit.zero n⟩, hb⟩
theorem get_put (T : Nat → List Pu) (c : Cp) (m : Int) (hs : s ≠ 0) (hn : 1 ≤ n) : getT s k (putT s n k T c m) c = (m, true) := by
  unfold getT putT
  rw [if_neg hs, if_neg hs]
  rw [if_pos rfl]
  unfold getS putS
  obtain ⟨v, rfl⟩ : ∃ v, n = v + 1 := ⟨n - 1, by omega⟩
  rw [List.take_succ_cons, List.find?_cons_of_pos (by simp)]
theorem get_none (c : Cp) : getT s k T0 c = (0, false) := by
  unfold getT
  split
  · rfl
  · rfl
end Go.Proofs.Ytlelglfdamakaaa.K
