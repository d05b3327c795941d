import Derived.Test.YtejkbeeffllpfaaL1
namespace Go.Proofs.Ytejkbeeffllpfaa
open Go.RowKit
set_option linter.unusedVariables false

/-- A block's first bytes, writable. -/
def Cel (w : World) (b m : Nat) (f : Nat → Nat) : Prop := ∀ j, j < m → Lies w ⟨b, j, none⟩ (.int .u8 ((f j : Nat) : Int))
theorem Cel.but {S : Nat → Prop} {w w' : World} {b m : Nat} {f : Nat → Nat} (hb : But S w w') (h : Cel w b m f) (hn : ¬ S b) : Cel w' b m f := fun j hj => (h j hj).but hb hn
theorem Cel.set {w : World} {b m k x : Nat} {f f' : Nat → Nat} (h : Cel w b m f) (hk : k < m) (hf : ∀ j, j < m → f' j = if j = k then x else f j) : Cel (w.setCell ⟨b, k, none⟩ (.int .u8 ((x : Nat) : Int))) b m f' := fun j hj => by
  rw [hf j hj]
  by_cases e : j = k
  · subst e
    rw [if_pos rfl]
    exact (h j hj).put
  · rw [if_neg e]
    exact (h j hj).other (fun e2 => e (by have := congrArg Addr.off e2; simp at this; omega))
theorem Cel.row {w : World} {b : Nat} {L : List Nat} (h : Cel w b L.length (fun x => L.getD x 0)) (cap : Nat) (hc : L.length ≤ cap) : Row w (some ⟨b, 0, none⟩) L.length cap (u8s L) :=
  Row.at (u8s_length _) hc (u8s_one _) (fun i v hv => by
    have hi : i < L.length := by have := (List.getElem?_eq_some_iff.1 hv).1; rwa [u8s_length] at this
    rw [u8s_get L i hi] at hv
    cases hv
    have := (h i hi).1
    simp only [List.getD_eq_getElem?_getD, List.getElem?_eq_getElem hi, Option.getD_some] at this
    rw [Nat.zero_add]
    exact this)
/-- The slice that the law keeps for an object. -/
def wv (G : Int → Nat) (o : Ob) : Value := .slice (some ⟨G o.id, 0, none⟩) o.data.length o.data.length
/-- A law's lists beside the store: Ps is there, the lists tell Os. -/
structure Lv (w : World) (base : Nat) (col : Nat → Nat) (z : Sid) (nx : Int) (Ps Os : List Ob) (G : Int → Nat) (aI : Option Addr) (cI : Nat) (aS : Option Addr) (cS : Nat) (aW : Option Addr) (cW : Nat) : Prop where
  st : St w z nx Ps
  rI : Gro w base 3 aI Os.length cI (ints (Os.map Ob.id))
  rS : Gro w base 3 aS Os.length cS (ints (Os.map fun o => (o.data.length : Int)))
  rW : Gro w base 30 aW Os.length cW (Os.map (wv G))
  cel : ∀ o ∈ Os, Cel w (G o.id) o.data.length (fun x => o.data.getD x 0)
  kI : ∀ k, Blk aI k → col k = 1
  kS : ∀ k, Blk aS k → col k = 2
  kW : ∀ k, Blk aW k → col k = 3
  kG : ∀ o ∈ Os, col (G o.id) = 10 + o.id.toNat
  kZ : ∀ k, Zb z k → col k = 5
  kR : ∀ k, Rb Ps k → col k = 6
  lt : ∀ k, col k ≠ 0 → k < w.heap.size
  ge : ∀ k, col k ≠ 0 → base ≤ k
  hb : base ≤ w.heap.size
  sml : ∀ o ∈ Os, o.data.length ≤ 1023
/-- A call of the store. -/
theorem Lv.call {w w' : World} {base : Nat} {col : Nat → Nat} {z : Sid} {nx nx' : Int} {Ps Ps' Os : List Ob} {G : Int → Nat} {aI : Option Addr} {cI : Nat} {aS : Option Addr} {cS : Nat} {aW : Option Addr} {cW : Nat} (h : Lv w base col z nx Ps Os G aI cI aS cS aW cW)
    (hb : But (Zb z) w w') (hS : St w' z nx' Ps') (hR : ∀ k, Rb Ps' k → Rb Ps k ∨ (w.heap.size ≤ k ∧ k < w'.heap.size)) : ∃ col', Lv w' base col' z nx' Ps' Os G aI cI aS cS aW cW := by
  have hne : ∀ k, col k ≠ 0 → ¬ (w.heap.size ≤ k ∧ k < w'.heap.size) := fun k hk e => by have := h.lt k hk; omega
  have hz : ∀ k c, col k = c → c ≠ 5 → ¬ Zb z k := fun k c hk hc e => hc (by rw [← hk]; exact h.kZ k e)
  refine ⟨fun k => if w.heap.size ≤ k ∧ k < w'.heap.size then 6 else col k, hS, h.rI.but hb (fun k hk => hz k 1 (h.kI k hk) (by decide)), h.rS.but hb (fun k hk => hz k 2 (h.kS k hk) (by decide)), h.rW.but hb (fun k hk => hz k 3 (h.kW k hk) (by decide)), fun o ho => (h.cel o ho).but hb (hz _ _ (h.kG o ho) (by omega)), fun k hk => ?_, fun k hk => ?_, fun k hk => ?_, fun o ho => ?_, fun k hk => ?_, fun k hk => ?_, fun k hk => ?_, fun k hk => ?_, Nat.le_trans h.hb hb.size, h.sml⟩
  · rw [if_neg (hne k (by rw [h.kI k hk]; decide))]; exact h.kI k hk
  · rw [if_neg (hne k (by rw [h.kS k hk]; decide))]; exact h.kS k hk
  · rw [if_neg (hne k (by rw [h.kW k hk]; decide))]; exact h.kW k hk
  · rw [if_neg (hne _ (by rw [h.kG o ho]; omega))]; exact h.kG o ho
  · rw [if_neg (hne k (by rw [h.kZ k hk]; decide))]; exact h.kZ k hk
  · rcases hR k hk with h1 | h1
    · rw [if_neg (hne k (by rw [h.kR k h1]; decide))]; exact h.kR k h1
    · exact if_pos h1
  · by_cases e : w.heap.size ≤ k ∧ k < w'.heap.size
    · exact e.2
    · rw [if_neg e] at hk
      exact Nat.lt_of_lt_of_le (h.lt k hk) hb.size
  · by_cases e : w.heap.size ≤ k ∧ k < w'.heap.size
    · have := h.hb
      omega
    · rw [if_neg e] at hk
      exact h.ge k hk
theorem Lv.later {w w' : World} {base : Nat} {col : Nat → Nat} {z : Sid} {nx : Int} {Ps Os : List Ob} {G : Int → Nat} {aI : Option Addr} {cI : Nat} {aS : Option Addr} {cS : Nat} {aW : Option Addr} {cW : Nat} (h : Lv w base col z nx Ps Os G aI cI aS cS aW cW)
    (hb : Below w.heap.size w w') : Lv w' base col z nx Ps Os G aI cI aS cS aW cW :=
  { h with
    st := h.st.later hb
    rI := h.rI.later hb
    rS := h.rS.later hb
    rW := h.rW.later hb
    cel := fun o ho => (h.cel o ho).but (S := fun _ => False) (But.of hb) (fun h => h)
    lt := fun k hk => Nat.lt_of_lt_of_le (h.lt k hk) hb.size
    hb := Nat.le_trans h.hb hb.size }
/-- All that is written lies behind the base. -/
theorem Lv.below {w w' : World} {base : Nat} {col : Nat → Nat} {z : Sid} {nx : Int} {Ps Os : List Ob} {G : Int → Nat} {aI : Option Addr} {cI : Nat} {aS : Option Addr} {cS : Nat} {aW : Option Addr} {cW : Nat} (h : Lv w base col z nx Ps Os G aI cI aS cS aW cW)
    {S : Nat → Prop} (hb : But S w w') (hS : ∀ k, S k → col k ≠ 0) : Below base w w' :=
  ⟨hb.os, hb.tape, hb.output, hb.size, fun k hk => hb.block k (Nat.lt_of_lt_of_le hk h.hb) (fun e => by have := h.ge k (hS k e); omega)⟩
/-- The lists alone. -/
theorem Lv.rg {w : World} {base : Nat} {col : Nat → Nat} {z : Sid} {nx : Int} {Ps Os : List Ob} {G : Int → Nat} {aI : Option Addr} {cI : Nat} {aS : Option Addr} {cS : Nat} {aW : Option Addr} {cW : Nat} (h : Lv w base col z nx Ps Os G aI cI aS cS aW cW) :
    Rg w w base col col aI Os.length cI (ints (Os.map Ob.id)) aS Os.length cS (ints (Os.map fun o => (o.data.length : Int))) aW Os.length cW (Os.map (wv G)) [] :=
  ⟨h.rI, h.rS, h.rW, h.kI, h.kS, h.kW, fun p hp => (by cases hp), fun _ _ => rfl, h.lt, h.ge, But.refl _ _, h.hb⟩
def newG (G : Int → Nat) (id : Int) (gm : Nat) : Int → Nat := fun i => if i = id then gm else G i
/-- One object more. -/
theorem Lv.grow {w u : World} {base : Nat} {col col' : Nat → Nat} {z : Sid} {nx nx' : Int} {Ps Os : List Ob} {G : Int → Nat} {aI : Option Addr} {cI : Nat} {aS : Option Addr} {cS : Nat} {aW : Option Addr} {cW : Nat} (h : Lv w base col z nx Ps Os G aI cI aS cS aW cW)
    {o : Ob} {gm k : Nat} {bI bS bW : Option Addr} {dI dS dW : Nat} {xs : List (Nat × Nat × List Value)} (hid : 1 ≤ o.id) (hrise : ∀ p ∈ Os, 1 ≤ p.id ∧ p.id < o.id) (hd : o.data = List.replicate k 0) (hk : k ≤ 1023)
    (hg : Rg w u base col col' bI (Os.length + 1) dI (ints (Os.map Ob.id) ++ [.int .i64 o.id]) bS (Os.length + 1) dS (ints (Os.map fun o => (o.data.length : Int)) ++ [.int .i64 (k : Int)]) bW (Os.length + 1) dW (Os.map (wv G) ++ [.slice (some ⟨gm, 0, none⟩) k k]) xs)
    (hm : (gm, 10 + o.id.toNat, List.replicate k (.int .u8 0)) ∈ xs) : Lv u base col' z nx Ps (Os ++ [o]) (newG G o.id gm) bI dI bS dS bW dW := by
  have hsz := hg.but.size
  have hol : ∀ j, col j ≠ 0 → col' j = col j := fun j hj => hg.old j (h.lt j hj)
  have hne : ∀ j c, col j = c → (c = 5 ∨ c = 6 ∨ 10 ≤ c) → ¬ (col j = 1 ∨ col j = 2 ∨ col j = 3) := fun j c hj hc e => by omega
  have hGo : ∀ p ∈ Os, newG G o.id gm p.id = G p.id := fun p hp => by
    unfold newG
    rw [if_neg (by have := hrise p hp; omega)]
  have hGn : newG G o.id gm o.id = gm := by simp [newG]
  have hl : o.data.length = k := by rw [hd]; simp
  obtain ⟨m1, m2, m3, m4⟩ := hg.ex _ hm
  have hmem : ∀ p ∈ Os ++ [o], p ∈ Os ∨ p = o := fun p hp => by simpa using hp
  refine ⟨h.st.but hg.but (fun j hj => hne j 5 (h.kZ j hj) (by omega)) (fun j hj => hne j 6 (h.kR j hj) (by omega)), ?_, ?_, ?_, fun p hp => ?_, hg.kI, hg.kS, hg.kW, fun p hp => ?_, fun j hj => ?_, fun j hj => ?_, hg.lt, hg.ge, Nat.le_trans h.hb hsz, fun p hp => ?_⟩
  · rw [List.length_append, List.map_append, ints_append]
    exact hg.rI
  · rw [List.length_append, List.map_append, ints_append]
    simp only [List.map_cons, List.map_nil, hl]
    exact hg.rS
  · rw [List.length_append, List.map_append]
    have e1 : Os.map (wv (newG G o.id gm)) = Os.map (wv G) := List.map_congr_left fun p hp => by unfold wv; rw [hGo p hp]
    have e2 : [o].map (wv (newG G o.id gm)) = [.slice (some ⟨gm, 0, none⟩) k k] := by simp [wv, hGn, hl]
    rw [e1, e2]
    exact hg.rW
  · rcases hmem p hp with h1 | rfl
    · rw [hGo p h1]
      exact (h.cel p h1).but hg.but (hne _ _ (h.kG p h1) (by omega))
    · rw [hGn, hl]
      intro j hj
      have := m4 j (.int .u8 0) (by simp [hj])
      simp only [hd, List.getD_eq_getElem?_getD, List.getElem?_replicate, hj, if_true, Option.getD_some]
      exact this
  · rcases hmem p hp with h1 | rfl
    · rw [hGo p h1, hol _ (by rw [h.kG p h1]; omega)]
      exact h.kG p h1
    · rw [hGn]
      exact m1
  · rw [hol j (by rw [h.kZ j hj]; decide)]
    exact h.kZ j hj
  · rw [hol j (by rw [h.kR j hj]; decide)]
    exact h.kR j hj
  · rcases hmem p hp with h1 | rfl
    · exact h.sml p h1
    · omega
/-- One object less. -/
theorem Lv.shrink {w u : World} {base : Nat} {col col' : Nat → Nat} {z : Sid} {nx : Int} {Ps Os : List Ob} {G : Int → Nat} {aI : Option Addr} {cI : Nat} {aS : Option Addr} {cS : Nat} {aW : Option Addr} {cW : Nat} (h : Lv w base col z nx Ps Os G aI cI aS cS aW cW)
    {k : Nat} {bI bS bW : Option Addr} {dI dS dW : Nat} {xs : List (Nat × Nat × List Value)} (hk : k < Os.length)
    (hg : Rg w u base col col' bI (Os.length - 1) dI ((ints (Os.map Ob.id)).take k ++ (ints (Os.map Ob.id)).drop (k + 1)) bS (Os.length - 1) dS ((ints (Os.map fun o => (o.data.length : Int))).take k ++ (ints (Os.map fun o => (o.data.length : Int))).drop (k + 1)) bW (Os.length - 1) dW ((Os.map (wv G)).take k ++ (Os.map (wv G)).drop (k + 1)) xs) :
    Lv u base col' z nx Ps (Os.take k ++ Os.drop (k + 1)) G bI dI bS dS bW dW := by
  have hsz := hg.but.size
  have hol : ∀ j, col j ≠ 0 → col' j = col j := fun j hj => hg.old j (h.lt j hj)
  have hne : ∀ j c, col j = c → (c = 5 ∨ c = 6 ∨ 10 ≤ c) → ¬ (col j = 1 ∨ col j = 2 ∨ col j = 3) := fun j c hj hc e => by omega
  have hmem : ∀ p ∈ Os.take k ++ Os.drop (k + 1), p ∈ Os := fun p hp => by
    rcases List.mem_append.1 hp with h1 | h1
    · exact List.mem_of_mem_take h1
    · exact List.mem_of_mem_drop h1
  have hlen : (Os.take k ++ Os.drop (k + 1)).length = Os.length - 1 := by simp; omega
  refine ⟨h.st.but hg.but (fun j hj => hne j 5 (h.kZ j hj) (by omega)) (fun j hj => hne j 6 (h.kR j hj) (by omega)), ?_, ?_, ?_, fun p hp => ?_, hg.kI, hg.kS, hg.kW, fun p hp => ?_, fun j hj => ?_, fun j hj => ?_, hg.lt, hg.ge, Nat.le_trans h.hb hsz, fun p hp => h.sml p (hmem p hp)⟩
  · rw [hlen]
    simpa [ints, List.map_take, List.map_drop] using hg.rI
  · rw [hlen]
    simpa [ints, List.map_take, List.map_drop] using hg.rS
  · rw [hlen]
    simpa [List.map_take, List.map_drop] using hg.rW
  · exact (h.cel p (hmem p hp)).but hg.but (hne _ _ (h.kG p (hmem p hp)) (by omega))
  · rw [hol _ (by rw [h.kG p (hmem p hp)]; omega)]
    exact h.kG p (hmem p hp)
  · rw [hol j (by rw [h.kZ j hj]; decide)]
    exact h.kZ j hj
  · rw [hol j (by rw [h.kR j hj]; decide)]
    exact h.kR j hj
/-- The object at a place taken out, by its number. -/
theorem without_at {Os : List Ob} (hr : Os.Pairwise (fun a b => a.id < b.id)) {k : Nat} (hk : k < Os.length) : without Os[k].id Os = Os.take k ++ Os.drop (k + 1) := by
  rw [List.pairwise_iff_getElem] at hr
  obtain ⟨o, ho⟩ : ∃ o, o = Os[k] := ⟨_, rfl⟩
  have e : Os = Os.take k ++ o :: Os.drop (k + 1) := by rw [ho, ← List.drop_eq_getElem_cons hk, List.take_append_drop]
  rw [← ho]
  have e2 : without o.id Os = without o.id (Os.take k ++ o :: Os.drop (k + 1)) := congrArg (without o.id) e
  rw [e2]
  unfold without
  rw [List.filter_append, List.filter_cons, if_neg (by simp)]
  congr 1
  · refine List.filter_eq_self.2 fun p hp => ?_
    obtain ⟨i, hi, rfl⟩ := List.getElem_of_mem hp
    rw [List.length_take] at hi
    rw [List.getElem_take, ho]
    have := hr i k (by omega) hk (by omega)
    simp
    omega
  · refine List.filter_eq_self.2 fun p hp => ?_
    obtain ⟨i, hi, rfl⟩ := List.getElem_of_mem hp
    rw [List.length_drop] at hi
    rw [List.getElem_drop, ho]
    have := hr k (k + 1 + i) hk (by omega) (by omega)
    simp
    omega
theorem at_at {Os : List Ob} (hr : Os.Pairwise (fun a b => a.id < b.id)) {k : Nat} (hk : k < Os.length) : at? Os Os[k].id = some Os[k] := by
  cases h : at? Os Os[k].id with
  | none => exact absurd rfl (at_none h _ (List.getElem_mem hk))
  | some o => rw [at_uniq hr h (List.getElem_mem hk) rfl]
end Go.Proofs.Ytejkbeeffllpfaa
