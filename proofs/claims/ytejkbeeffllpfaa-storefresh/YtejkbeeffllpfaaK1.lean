import Derived.Test.YtejkbeeffllpfaaC5
import Derived.Maps.OwnSet
import Derived.Lib.SlKeysI
namespace Go.Proofs.Ytejkbeeffllpfaa
open Go.RowKit
set_option linter.unusedVariables false

/-- An object: its number, its bytes; its pages and where the list of them lies. -/
structure Ob where
  id : Int
  data : List Nat
  pages : List Nat
  adr : Option Addr
def Ob.val (o : Ob) : Value := .agg #[.int .i64 (o.data.length : Int), .slice o.adr o.pages.length o.pages.length]
/-- How an element of the map is read: as itself. -/
def hr : Value → Option (DataW Value × List MemPlace) := fun v => some (.held v, [])
def ent (o : Ob) : Lit × DataW Value := (.int .i64 o.id, .held o.val)
def mapD (Os : List Ob) : DataW Value := .map (Os.map ent)
theorem ent_same (o : Ob) (id : Int) : (ent o).1.sameKey (.int .i64 id) = decide (o.id = id) := by simp [ent, Lit.sameKey]
theorem has_mapD (Os : List Ob) (id : Int) : Maps.has (mapD Os) (.int .i64 id) = Os.any (fun o => decide (o.id = id)) := by
  rw [mapD, Maps.has_eq, List.any_map]
  congr 1
  funext o
  exact ent_same o id
theorem atKey_mapD (Os : List Ob) (id : Int) (z : DataW Value) : (mapD Os).atKey (.int .i64 id) z = match Os.find? (fun o => decide (o.id = id)) with | some o => .held o.val | none => z := by
  unfold mapD DataW.atKey
  simp only [List.find?_map]
  have e : ((fun p : Lit × DataW Value => p.1.sameKey (.int .i64 id)) ∘ ent) = fun o => decide (o.id = id) := by funext o; exact ent_same o id
  rw [e]
  cases Os.find? (fun o => decide (o.id = id)) <;> rfl
theorem insert_last (x : Lit × DataW Value) : ∀ l : List (Lit × DataW Value), (∀ p ∈ l, x.1.before p.1 = false) → DataW.insert x l = l ++ [x]
  | [], _ => rfl
  | y :: r, h => by
    rw [DataW.insert, if_neg (by rw [h y (by simp)]; simp), insert_last x r (fun p hp => h p (by simp [hp]))]
    rfl
theorem put_mapD (Os : List Ob) (o : Ob) (h : ∀ p ∈ Os, p.id < o.id) : (mapD Os).put (.int .i64 o.id) (.held o.val) = mapD (Os ++ [o]) := by
  unfold mapD DataW.put
  simp only
  rw [List.filter_eq_self.2 (fun p hp => ?_), insert_last, List.map_append]
  · rfl
  · intro p hp
    obtain ⟨q, hq, rfl⟩ := List.mem_map.1 hp
    have := h q hq
    simp [ent, Lit.before]
    omega
  · obtain ⟨q, hq, rfl⟩ := List.mem_map.1 hp
    have := h q hq
    rw [ent_same]
    simp
    omega
def without (id : Int) (Os : List Ob) : List Ob := Os.filter fun o => decide (o.id ≠ id)
theorem del_mapD (Os : List Ob) (id : Int) : (mapD Os).del (.int .i64 id) = mapD (without id Os) := by
  unfold mapD DataW.del without
  simp only [List.filter_map]
  congr 2
  refine List.filter_congr fun o _ => ?_
  simp only [Function.comp, ent_same]
  simp
theorem size_mapD (Os : List Ob) : Maps.size (mapD Os) = Os.length := by simp [mapD, Maps.size]
theorem keys_mapD (Os : List Ob) : intKeys (mapD Os) = Os.map Ob.id := by
  simp [mapD, intKeys, ent, Function.comp_def, Go.intOf]
theorem sorted_keys {l : List Int} (h : l.Pairwise (· < ·)) : l.mergeSort leI = l := by
  refine List.mergeSort_of_pairwise ?_
  rw [List.pairwise_iff_getElem] at h ⊢
  intro i j hi hj hij
  have := h i j hi hj hij
  simp only [leI, decide_eq_true_eq]
  omega
/-- The bound of a map is how many are there. -/
theorem owns_tight {w : World} {k : TypeId} {R : Value → Option (DataW Value × List MemPlace)} {b n : Nat} {Os : List Ob} (h : w.ownsMap Try.prog k R b n (mapD Os)) : w.ownsMap Try.prog k R b Os.length (mapD Os) := by
  obtain ⟨es, clock, hb, F, hs, hD⟩ := h
  refine ⟨es, clock, hb, F, ?_, hD⟩
  have := congrArg Maps.size hD
  rw [size_mapD] at this
  rw [this]
  simp [Maps.size, length_sorted]
theorem owns_but {S : Nat → Prop} {w w' : World} {k : TypeId} {R : Value → Option (DataW Value × List MemPlace)} {b n : Nat} {D : DataW Value} (hb : But S w w') (h : w.ownsMap Try.prog k R b n D) (hn : ¬ S b) : w'.ownsMap Try.prog k R b n D := by
  have hl := h.lt
  obtain ⟨es, clock, hh, r⟩ := h
  exact ⟨es, clock, by rw [hb.block b hl hn]; exact hh, r⟩
theorem turned_but {w w' : World} {b : Nat} (h : w.mapTurned w' b) : But (· = b) w w' := by
  have hg := h.grown
  exact ⟨hg.os, hg.tape, hg.output, hg.size, fun k hk hn => hg.block k hk (fun e => hn (by cases e; rfl))⟩

/-- All pages. -/
def allP (Os : List Ob) : List Nat := Os.flatMap Ob.pages
theorem lst_both (n : Nat) (t : Nat → Bool) : (lst n t false).length + (lst n t true).length = n := by
  induction n with
  | zero => simp [lst]
  | succ n ih =>
    rw [lst_succ, lst_succ]
    cases t n <;> simp <;> omega
theorem lst_nodup (n : Nat) (t : Nat → Bool) (b : Bool) : (lst n t b).Nodup := List.Pairwise.filter _ List.nodup_range
theorem lst_count {n : Nat} {t : Nat → Bool} {L : List Nat} (hL : L.Nodup) (hn : ∀ i ∈ L, i < n) (ht : ∀ i, t i = decide (i ∈ L)) : (lst n t false).length + L.length = n := by
  have h := lst_both n t
  have hp : (lst n t true).Perm L := (List.perm_ext_iff_of_nodup (lst_nodup _ _ _) hL).2 fun i => by
    rw [mem_lst, ht i]
    simp only [decide_eq_true_eq]
    exact ⟨fun h => h.2, fun h => ⟨hn i h, h⟩⟩
  rw [hp.length_eq] at h
  exact h
/-- How many pages. -/
def needN (s : Nat) : Nat := (s + 63) / 64
def usedN (Os : List Ob) : Nat := (Os.map fun o => needN o.data.length).sum
theorem allP_length (Os : List Ob) (h : ∀ o ∈ Os, o.pages.length = needN o.data.length) : (allP Os).length = usedN Os := by
  induction Os with
  | nil => rfl
  | cons o r ih =>
    have h1 := h o (by simp)
    have h2 := ih (fun p hp => h p (by simp [hp]))
    simp only [allP, List.flatMap_cons, List.length_append, usedN, List.map_cons, List.sum_cons] at h1 h2 ⊢
    omega
end Go.Proofs.Ytejkbeeffllpfaa
