import Derived.Test.YtnjadfgfpebkdaaGreatSB
import Derived.Maps.OwnSet
import Derived.Lib.SlKeysI
namespace Go.Proofs.YtnjadfgfpebkdaaGreat.S
open Go.RowKit
set_option linter.unusedVariables false

/-- An object: its number, its bytes; its pages and where the list of them lies. -/
structure Ob where
  id : Int
  data : List Nat
  pages : List Nat
  adr : Option Addr
def Ob.val (o : Ob) : Value := .agg #[.int .i64 (o.data.length : Int), .slice o.adr o.pages.length o.pages.length]
/-- How an element of the map is read: as itself. -/
def hr : Value → Option (DataW Value × List MemPlace) := fun v => some (.held v, [])
def ent (o : Ob) : Lit × DataW Value := (.int .i64 o.id, .held o.val)
def mapD (Os : List Ob) : DataW Value := .map (Os.map ent)
theorem ent_same (o : Ob) (id : Int) : (ent o).1.sameKey (.int .i64 id) = decide (o.id = id) := by simp [ent, Lit.sameKey]
theorem has_mapD (Os : List Ob) (id : Int) : Maps.has (mapD Os) (.int .i64 id) = Os.any (fun o => decide (o.id = id)) := by
  rw [mapD, Maps.has_eq, List.any_map]
  congr 1
  funext o
  exact ent_same o id
theorem atKey_mapD (Os : List Ob) (id : Int) (z : DataW Value) : (mapD Os).atKey (.int .i64 id) z = match Os.find? (fun o => decide (o.id = id)) with | some o => .held o.val | none => z := by
  unfold mapD DataW.atKey
  simp only [List.find?_map]
  have e : ((fun p : Lit × DataW Value => p.1.sameKey (.int .i64 id)) ∘ ent) = fun o => decide (o.id = id) := by funext o; exact ent_same o id
  rw [e]
  cases Os.find? (fun o => decide (o.id = id)) <;> rfl
theorem insert_last (x : Lit × DataW Value) : ∀ l : List (Lit × DataW Value), (∀ p ∈ l, x.1.before p.1 = false) → DataW.insert x l = l ++ [x]
  | [], _ => rfl
  | y :: r, h => by
    rw [DataW.insert, if_neg (by rw [h y (by simp)]; simp), insert_last x r (fun p hp => h p (by simp [hp]))]
    rfl
theorem put_mapD (Os : List Ob) (o : Ob) (h : ∀ p ∈ Os, p.id < o.id) : (mapD Os).put (.int .i64 o.id) (.held o.val) = mapD (Os ++ [o]) := by
  unfold mapD DataW.put
  simp only
  rw [List.filter_eq_self.2 (fun p hp => ?_), insert_last, List.map_append]
  · rfl
  · intro p hp
    obtain ⟨q, hq, rfl⟩ := List.mem_map.1 hp
    have := h q hq
    simp [ent, Lit.before]
    omega
  · obtain ⟨q, hq, rfl⟩ := List.mem_map.1 hp
    have := h q hq
    rw [ent_same]
    simp
    omega
def without (id : Int) (Os : List Ob) : List Ob := Os.filter fun o => decide (o.id ≠ id)
theorem del_mapD (Os : List Ob) (id : Int) : (mapD Os).del (.int .i64 id) = mapD (without id Os) := by
  unfold mapD DataW.del without
  simp only [List.filter_map]
  congr 2
  refine List.filter_congr fun o _ => ?_
  simp only [Function.comp, ent_same]
  simp
theorem size_mapD (Os : List Ob) : Maps.size (mapD Os) = Os.length := by simp [mapD, Maps.size]
theorem keys_mapD (Os : List Ob) : intKeys (mapD Os) = Os.map Ob.id := by
  simp [mapD, intKeys, ent, Function.comp_def, Go.intOf]
theorem sorted_keys {l : List Int} (h : l.Pairwise (· < ·)) : l.mergeSort leI = l := by
  refine List.mergeSort_of_pairwise ?_
  rw [List.pairwise_iff_getElem] at h ⊢
  intro i j hi hj hij
  have := h i j hi hj hij
  simp only [leI, decide_eq_true_eq]
  omega
/-- The bound of a map is how many are there. -/
theorem owns_tight {w : World} {k : TypeId} {R : Value → Option (DataW Value × List MemPlace)} {b n : Nat} {Os : List Ob} (h : w.ownsMap Tryz.prog k R b n (mapD Os)) : w.ownsMap Tryz.prog k R b Os.length (mapD Os) := by
  obtain ⟨es, clock, hb, F, hs, hD⟩ := h
  refine ⟨es, clock, hb, F, ?_, hD⟩
  have := congrArg Maps.size hD
  rw [size_mapD] at this
  rw [this]
  simp [Maps.size, length_sorted]
theorem owns_but {S : Nat → Prop} {w w' : World} {k : TypeId} {R : Value → Option (DataW Value × List MemPlace)} {b n : Nat} {D : DataW Value} (hb : But S w w') (h : w.ownsMap Tryz.prog k R b n D) (hn : ¬ S b) : w'.ownsMap Tryz.prog k R b n D := by
  have hl := h.lt
  obtain ⟨es, clock, hh, r⟩ := h
  exact ⟨es, clock, by rw [hb.block b hl hn]; exact hh, r⟩
theorem turned_but {w w' : World} {b : Nat} (h : w.mapTurned w' b) : But (· = b) w w' := by
  have hg := h.grown
  exact ⟨hg.os, hg.tape, hg.output, hg.size, fun k hk hn => hg.block k hk (fun e => hn (by cases e; rfl))⟩

/-- All pages. -/
def allP (Os : List Ob) : List Nat := Os.flatMap Ob.pages
theorem lst_both (n : Nat) (t : Nat → Bool) : (lst n t false).length + (lst n t true).length = n := by
  induction n with
  | zero => simp [lst]
  | succ n ih =>
    rw [lst_succ, lst_succ]
    cases t n <;> simp <;> omega
theorem lst_nodup (n : Nat) (t : Nat → Bool) (b : Bool) : (lst n t b).Nodup := List.Pairwise.filter _ List.nodup_range
theorem lst_count {n : Nat} {t : Nat → Bool} {L : List Nat} (hL : L.Nodup) (hn : ∀ i ∈ L, i < n) (ht : ∀ i, t i = decide (i ∈ L)) : (lst n t false).length + L.length = n := by
  have h := lst_both n t
  have hp : (lst n t true).Perm L := (List.perm_ext_iff_of_nodup (lst_nodup _ _ _) hL).2 fun i => by
    rw [mem_lst, ht i]
    simp only [decide_eq_true_eq]
    exact ⟨fun h => h.2, fun h => ⟨hn i h, h⟩⟩
  rw [hp.length_eq] at h
  exact h
/-- How many pages. -/
def needN (s : Nat) : Nat := (s + 63) / 64
def usedN (Os : List Ob) : Nat := (Os.map fun o => needN o.data.length).sum
theorem allP_length (Os : List Ob) (h : ∀ o ∈ Os, o.pages.length = needN o.data.length) : (allP Os).length = usedN Os := by
  induction Os with
  | nil => rfl
  | cons o r ih =>
    have h1 := h o (by simp)
    have h2 := ih (fun p hp => h p (by simp [hp]))
    simp only [allP, List.flatMap_cons, List.length_append, usedN, List.map_cons, List.sum_cons] at h1 h2 ⊢
    omega
end Go.Proofs.YtnjadfgfpebkdaaGreat.S
namespace Go.Proofs.YtnjadfgfpebkdaaGreat.S
open Go.RowKit
set_option linter.unusedVariables false

/-- The program's store: its box s, the arena's box g, its pages pb, its map m. -/
structure Sto (w : World) (s g pb m n room : Nat) (nx : Int) (t : Nat → Bool) (B : Nat → Nat → Nat) (Os : List Ob) : Prop where
  arn : Arn w g pb n t B
  c0 : Lies w ⟨s, 0, none⟩ (.pointer (some ⟨g, 0, none⟩))
  c1 : Lies w ⟨s, 1, none⟩ (.map (some m))
  c2 : Lies w ⟨s, 2, none⟩ (.int .i64 (room : Int))
  c3 : Lies w ⟨s, 3, none⟩ (.int .i64 nx)
  map : w.ownsMap Tryz.prog 3 hr m Os.length (mapD Os)
  sg : s ≠ g
  sp : s ≠ pb
  sm : s ≠ m
  gm : g ≠ m
  pm : pb ≠ m
  rows : ∀ o ∈ Os, Row w o.adr o.pages.length o.pages.length (ints (nats o.pages))
  off : ∀ o ∈ Os, ∀ k, Blk o.adr k → k ≠ s ∧ k ≠ g ∧ k ≠ pb ∧ k ≠ m ∧ k < w.heap.size
  len : ∀ o ∈ Os, o.pages.length = needN o.data.length
  nd : (allP Os).Nodup
  tks : ∀ i, t i = decide (i ∈ allP Os)
  bytes : ∀ o ∈ Os, ∀ j, j < o.data.length → B (o.pages.getD (j / 64) 0) (j % 64) = o.data.getD j 0
  rise : Os.Pairwise (fun a b => a.id < b.id)
  ids : ∀ o ∈ Os, 1 ≤ o.id ∧ o.id < nx
  nx1 : 1 ≤ nx ∧ nx ≤ 4611686018427387905
  rm : Os.length ≤ room ∧ room ≤ 64
  big : ∀ o ∈ Os, o.data.length ≤ 4096
/-- The blocks that its calls write. -/
def Sb (s g pb m : Nat) (k : Nat) : Prop := k = s ∨ k = g ∨ k = pb ∨ k = m
/-- The blocks of its objects' lists. -/
def Rb (Os : List Ob) (k : Nat) : Prop := ∃ o ∈ Os, Blk o.adr k
theorem Sto.but {S : Nat → Prop} {w w' : World} {s g pb m n room : Nat} {nx : Int} {t : Nat → Bool} {B : Nat → Nat → Nat} {Os : List Ob} (hb : But S w w') (h : Sto w s g pb m n room nx t B Os) (h1 : ∀ k, Sb s g pb m k → ¬ S k) (h2 : ∀ k, Rb Os k → ¬ S k) : Sto w' s g pb m n room nx t B Os :=
  { h with
    arn := h.arn.but hb (h1 _ (.inr (.inl rfl))) (h1 _ (.inr (.inr (.inl rfl))))
    c0 := h.c0.but hb (h1 _ (.inl rfl))
    c1 := h.c1.but hb (h1 _ (.inl rfl))
    c2 := h.c2.but hb (h1 _ (.inl rfl))
    c3 := h.c3.but hb (h1 _ (.inl rfl))
    map := owns_but hb h.map (h1 _ (.inr (.inr (.inr rfl))))
    rows := fun o ho => (h.rows o ho).but hb (fun k hk => h2 k ⟨o, ho, hk⟩)
    off := fun o ho k hk => by
      obtain ⟨a, b, c, d, e⟩ := h.off o ho k hk
      exact ⟨a, b, c, d, Nat.lt_of_lt_of_le e hb.size⟩ }
theorem Sto.later {w w' : World} {s g pb m n room : Nat} {nx : Int} {t : Nat → Bool} {B : Nat → Nat → Nat} {Os : List Ob} (hb : Below w.heap.size w w') (h : Sto w s g pb m n room nx t B Os) : Sto w' s g pb m n room nx t B Os :=
  h.but (S := fun _ => False) (But.of hb) (fun _ _ h => h) (fun _ _ h => h)
theorem Sto.mem {w : World} {s g pb m n room : Nat} {nx : Int} {t : Nat → Bool} {B : Nat → Nat → Nat} {Os : List Ob} (h : Sto w s g pb m n room nx t B Os) {o : Ob} (ho : o ∈ Os) {p : Nat} (hp : p ∈ o.pages) : t p = true ∧ p < n := by
  have h1 : t p = true := by
    rw [h.tks p]
    exact decide_eq_true (List.mem_flatMap.2 ⟨o, ho, hp⟩)
  exact ⟨h1, h.arn.only p h1⟩
theorem Sto.count {w : World} {s g pb m n room : Nat} {nx : Int} {t : Nat → Bool} {B : Nat → Nat → Nat} {Os : List Ob} (h : Sto w s g pb m n room nx t B Os) : (lst n t false).length + usedN Os = n := by
  rw [← allP_length Os h.len]
  refine lst_count h.nd (fun i hi => h.arn.only i ?_) h.tks
  rw [h.tks i]
  exact decide_eq_true hi
theorem Sto.small {w : World} {s g pb m n room : Nat} {nx : Int} {t : Nat → Bool} {B : Nat → Nat → Nat} {Os : List Ob} (h : Sto w s g pb m n room nx t B Os) {o : Ob} (ho : o ∈ Os) : ∀ x ∈ o.data, x < 256 := by
  intro x hx
  obtain ⟨j, hj, rfl⟩ := List.getElem_of_mem hx
  have := h.bytes o ho j hj
  rw [List.getD_eq_getElem?_getD, List.getD_eq_getElem?_getD, List.getElem?_eq_getElem hj] at this
  simp only [Option.getD_some] at this
  rw [← this]
  exact h.arn.small _ _

set_option maxRecDepth 100000 in
set_option maxHeartbeats 1000000 in
theorem need_any (k : Nat) (w : World) (hk : k ≤ 4096) : Calls Tryz.prog 80 #[.int .i64 (k : Int)] w fun e w' => e = .returned (.int .i64 ((needN k : Nat) : Int)) ∧ w' = w := by
  have e : (((k : Int) + 64 - 1).tdiv 64) = ((needN k : Nat) : Int) := by
    unfold needN
    rw [show (k : Int) + 64 - 1 = ((k + 63 : Nat) : Int) by omega]
    rfl
  go_enter Tryz.func80, Tryz.ntmps80
  go_wp2
  go_ret
  exact ⟨ret_int (by
    have h : needN k ≤ 64 := by unfold needN; omega
    unfold wrap64
    omega), rfl⟩
set_option maxRecDepth 100000 in
set_option maxHeartbeats 1000000 in
theorem sfree_any (s g pb m n room : Nat) (nx : Int) (t : Nat → Bool) (B : Nat → Nat → Nat) (Os : List Ob) (w : World) (h : Sto w s g pb m n room nx t B Os) :
    Calls Tryz.prog 57 #[.pointer (some ⟨s, 0, none⟩)] w fun e w' => e = .returned (.int .i64 ((n - usedN Os : Nat) : Int)) ∧ Below w.heap.size w w' := by
  have x := h.c0.1
  have H := hid h.arn
  have HC := hid h.count
  clear h
  go_enter Tryz.func57, Tryz.ntmps57
  go_wp2_with (first | (go_at_call 103; refine (free_any g pb n t B _ H.out).mono ?_; rintro e w1 ⟨rfl, hb⟩))
  go_ret
  exact ⟨ret_int (by have := HC.out; omega), hb⟩
set_option maxRecDepth 100000 in
set_option maxHeartbeats 1000000 in
theorem snext_any (s g pb m n room : Nat) (nx : Int) (t : Nat → Bool) (B : Nat → Nat → Nat) (Os : List Ob) (w : World) (h : Sto w s g pb m n room nx t B Os) :
    Calls Tryz.prog 59 #[.pointer (some ⟨s, 0, none⟩)] w fun e w' => e = .returned (.int .i64 nx) ∧ w' = w := by
  have x := h.c3.1
  clear h
  go_enter Tryz.func59, Tryz.ntmps59
  go_wp2
  go_ret
  exact ⟨rfl, rfl⟩
theorem lies_new (w : World) (cs : Array Value) (T : TypeId) (i : Nat) (v : Value) (h : cs[i]? = some v) : Lies (w.alloc (.cells cs T)) ⟨w.heap.size, i, none⟩ v := by
  have hh := heap_alloc_new w (.cells cs T)
  exact ⟨by rw [cell_of_row _ _ _ _ _ _ hh]; exact h, by simp only [World.frozen?, hh]; simp⟩
theorem info109 : (Tryz.prog.info? 109).map (fun i => (i.zero, i.size, i.bytes)) = some (some (.agg #[.pointer none, .map none, .int .i64 0, .int .i64 0]), 4, 32) := by kernel_rfl
theorem info106 : (Tryz.prog.info? 106).map (fun i => (i.zero, i.size, i.bytes)) = some (some (.agg #[.int .i64 0, .slice none 0 0]), 2, 32) := by kernel_rfl
theorem info155 : (Tryz.prog.info? 155).map (fun i => (i.zero, i.size, i.bytes)) = some (some (.agg #[.int .i64 0, .int .i64 0, .int .i64 0]), 3, 24) := by kernel_rfl
theorem law3 : Maps.Keyed Tryz.prog 3 := Maps.int_keyed Tryz.underlying3
theorem key3 {a : Int} (h : -9223372036854775808 ≤ a ∧ a < 9223372036854775808) : keyOf Tryz.prog 3 (.int .i64 a) = some (.int .i64 a) := Maps.keyOf_int_mk Tryz.underlying3 (WalkArith.wf_i64 (by omega))
set_option maxRecDepth 100000 in
set_option maxHeartbeats 1000000 in
theorem snew_ok (room n : Nat) (w : World) (h1 : 1 ≤ room ∧ room ≤ 64) (h2 : 1 ≤ n ∧ n ≤ 256) :
    Calls Tryz.prog 30 #[.int .i64 (room : Int), .int .i64 (n : Int)] w fun e w' => ∃ s g pb m, e = .returned (.tuple #[.pointer (some ⟨s, 0, none⟩), .int .i64 0]) ∧ Sto w' s g pb m n room 1 (fun _ => false) (fun _ _ => 0) [] ∧ (∀ k, Sb s g pb m k → w.heap.size ≤ k ∧ k < w'.heap.size) ∧ Below w.heap.size w w' := by
  have hd1 : decide ((room : Int) < 1) = false := decide_eq_false (by omega)
  have hd2 : decide ((room : Int) > 64) = false := decide_eq_false (by omega)
  have hd3 : decide ((n : Int) < 1) = false := decide_eq_false (by omega)
  have hmm := @run_makeMap Tryz.prog
  have hz := zero_of info109
  go_enter Tryz.func30, Tryz.ntmps30
  go_wp2_with (first | (go_at_call 72; refine (new_ok n _ (by omega)).mono ?_; rintro e w1 ⟨g, pb, rfl, A, G1, G2, hb⟩; have HA := hid A; have HG1 := hid G1; have HG2 := hid G2; have HB := hid hb; clear A G1 G2 hb))
  have hs := HB.out.size
  have hb1 : Below w1.heap.size w1 (w1.alloc (Obj.map #[] 0)) := below1 _ _
  have hA2 : w1.heap.size + 1 = (w1.alloc (Obj.map #[] 0)).heap.size := by simp
  rw [hA2]
  generalize hC : (#[Value.pointer (some ⟨g, 0, none⟩), Value.map (some w1.heap.size), Value.int .i64 (room : Int), Value.int .i64 1] : Array Value) = C
  have hb2 := below2 w1 (Obj.map #[] 0) (.cells C 109)
  have hgl := HA.out.glt
  have hpl := HA.out.lt
  refine bodyPost_ret (v := .tuple #[.pointer (some ⟨(w1.alloc (Obj.map #[] 0)).heap.size, 0, none⟩), .int .i64 0]) (by simp [results, Tryz.results30, go_sem]) rfl ⟨_, g, pb, w1.heap.size, rfl, ⟨HA.out.later hb2, ?_, ?_, ?_, ?_, ?_, by simp; omega, by simp; omega, by simp, by omega, by omega, fun o ho => (by cases ho), fun o ho => (by cases ho), fun o ho => (by cases ho), by simp [allP], fun i => by simp [allP], fun o ho => (by cases ho), List.Pairwise.nil, fun o ho => (by cases ho), by omega, ⟨by simp, h1.2⟩, fun o ho => (by cases ho)⟩, ?_, below_call HB.out hb2⟩
  · exact lies_new _ _ _ 0 _ (by rw [← hC]; rfl)
  · exact lies_new _ _ _ 1 _ (by rw [← hC]; rfl)
  · exact lies_new _ _ _ 2 _ (by rw [← hC]; rfl)
  · exact lies_new _ _ _ 3 _ (by rw [← hC]; rfl)
  · exact (World.ownsMap_made w1 Tryz.prog 3 hr).alloc _
  · have h1 := HG1.out
    have h2 := HG2.out
    rintro k (rfl | rfl | rfl | rfl) <;> simp <;> omega
/-- What May answers. -/
def mayE (room n : Nat) (nx : Int) (Os : List Ob) (size : Int) : Int :=
  if size < 0 ∨ 4096 < size then 6 else if room ≤ Os.length ∨ 4611686018427387904 < nx then 7 else if n - usedN Os < needN size.toNat then 8 else 0
set_option maxRecDepth 100000 in
set_option maxHeartbeats 1000000 in
theorem may_any (s g pb m n room : Nat) (nx : Int) (t : Nat → Bool) (B : Nat → Nat → Nat) (Os : List Ob) (size : Int) (w : World) (h : Sto w s g pb m n room nx t B Os) :
    Calls Tryz.prog 78 #[.pointer (some ⟨s, 0, none⟩), .int .i64 size] w fun e w' => e = .returned (.int .i64 (mayE room n nx Os size)) ∧ Below w.heap.size w w' := by
  obtain ⟨E, hE⟩ : ∃ E, E = mayE room n nx Os size := ⟨_, rfl⟩
  rw [← hE]
  have HE := hid hE
  have H := hid h
  clear hE
  by_cases h1 : size < 0
  · have hd1 : decide (size < 0) = true := decide_eq_true h1
    clear h
    go_enter Tryz.func78, Tryz.ntmps78
    go_wp2
    go_ret
    exact ⟨ret_int (by rw [HE.out, mayE, if_pos (.inl h1)]), Below.refl _ _⟩
  have hd1 : decide (size < 0) = false := decide_eq_false h1
  by_cases h2 : size > 4096
  · have hd2 : decide (size > 4096) = true := decide_eq_true h2
    clear h
    go_enter Tryz.func78, Tryz.ntmps78
    go_wp2
    go_ret
    exact ⟨ret_int (by rw [HE.out, mayE, if_pos (.inr h2)]), Below.refl _ _⟩
  have hd2 : decide (size > 4096) = false := decide_eq_false h2
  obtain ⟨k, rfl⟩ : ∃ k : Nat, size = (k : Int) := ⟨size.toNat, by omega⟩
  have hk : k ≤ 4096 := by omega
  have e1 : mayE room n nx Os (k : Int) = if room ≤ Os.length ∨ 4611686018427387904 < nx then 7 else if n - usedN Os < needN k then 8 else 0 := by
    rw [mayE, if_neg (by omega), Int.toNat_natCast]
  rw [e1] at HE
  have x1 := h.c1.1
  have x2 := h.c2.1
  have x3 := h.c3.1
  have hlen := fun d : Nat => (h.later (below_drewN (Below.refl _ _) d)).map.len Tryz.underlying104 3
  simp only [size_mapD] at hlen
  obtain ⟨len, hl⟩ : ∃ len, len = Os.length := ⟨_, rfl⟩
  rw [← hl] at hlen
  have HL := hid hl
  clear h e1 h1 h2 hl
  by_cases h3 : (len : Int) ≥ (room : Int)
  · have hd3 : decide ((len : Int) ≥ (room : Int)) = true := decide_eq_true h3
    go_enter Tryz.func78, Tryz.ntmps78
    go_wp2
    go_quiet (fail)
    go_wp2
    go_ret
    exact ⟨ret_int (by rw [HE.out, if_pos (.inl (by have := HL.out; omega))]), below_drewN (Below.refl _ _) _⟩
  have hd3 : decide ((len : Int) ≥ (room : Int)) = false := decide_eq_false h3
  have hd3b : decide (room ≤ len) = false := decide_eq_false (by omega)
  have hd3c : ¬ room ≤ len := by omega
  by_cases h4 : nx > 4611686018427387904
  · have hd4 : decide (nx > 4611686018427387904) = true := decide_eq_true h4
    go_enter Tryz.func78, Tryz.ntmps78
    go_wp2
    go_quiet (fail)
    go_wp2
    go_ret
    exact ⟨ret_int (by rw [HE.out, if_pos (.inr h4)]), below_drewN (Below.refl _ _) _⟩
  have hd4 : decide (nx > 4611686018427387904) = false := decide_eq_false h4
  have e2 : ¬ (room ≤ Os.length ∨ 4611686018427387904 < nx) := by
    have := HL.out
    omega
  rw [if_neg e2] at HE
  clear e2
  have HF : Hid (∀ d, Sto (w.drewN d) s g pb m n room nx t B Os) := hid (fun d => H.out.later (below_drewN (Below.refl _ _) d))
  obtain ⟨fr, hfr⟩ : ∃ fr, fr = n - usedN Os := ⟨_, rfl⟩
  rw [← hfr] at HE
  have HFR := hid hfr
  clear hfr
  by_cases h5 : (fr : Int) < ((needN k : Nat) : Int)
  · have hd5 : decide ((fr : Int) < ((needN k : Nat) : Int)) = true := decide_eq_true h5
    go_enter Tryz.func78, Tryz.ntmps78
    go_wp2
    go_quiet (fail)
    go_wp2_with (first
      | (go_at_call 80; refine (need_any k _ hk).mono ?_; rintro e w2 ⟨rfl, hw⟩; obtain rfl := hw.symm)
      | (go_at_call 57; refine (sfree_any s g pb m n room nx t B Os _ (HF.out _)).mono ?_; rintro e w1 ⟨rfl, hb⟩; rw [← HFR.out]; have HB := hid hb; clear hb))
    go_ret
    exact ⟨ret_int (by rw [HE.out, if_pos (by omega)]), below_call (below_drewN (Below.refl _ _) nq) HB.out⟩
  · have hd5 : decide ((fr : Int) < ((needN k : Nat) : Int)) = false := decide_eq_false h5
    go_enter Tryz.func78, Tryz.ntmps78
    go_wp2
    go_quiet (fail)
    go_wp2_with (first
      | (go_at_call 80; refine (need_any k _ hk).mono ?_; rintro e w2 ⟨rfl, hw⟩; obtain rfl := hw.symm)
      | (go_at_call 57; refine (sfree_any s g pb m n room nx t B Os _ (HF.out _)).mono ?_; rintro e w1 ⟨rfl, hb⟩; rw [← HFR.out]; have HB := hid hb; clear hb))
    go_ret
    exact ⟨ret_int (by rw [HE.out, if_neg (by omega)]), below_call (below_drewN (Below.refl _ _) nq) HB.out⟩
end Go.Proofs.YtnjadfgfpebkdaaGreat.S
namespace Go.Proofs.YtnjadfgfpebkdaaGreat.S
open Go.RowKit
set_option linter.unusedVariables false

/-- Which object bears a number. -/
def at? (Os : List Ob) (id : Int) : Option Ob := Os.find? fun o => decide (o.id = id)
theorem at_mem {Os : List Ob} {id : Int} {o : Ob} (h : at? Os id = some o) : o ∈ Os ∧ o.id = id := ⟨List.mem_of_find?_eq_some h, by simpa using List.find?_some h⟩
theorem at_none {Os : List Ob} {id : Int} (h : at? Os id = none) : ∀ o ∈ Os, o.id ≠ id := by
  intro o ho e
  have := List.find?_eq_none.1 h o ho
  simp [e] at this
theorem look_run {w : World} {s g pb m n room : Nat} {nx : Int} {t : Nat → Bool} {B : Nat → Nat → Nat} {Os : List Ob} (h : Sto w s g pb m n room nx t B Os) {id : Int} (hi : -9223372036854775808 ≤ id ∧ id < 9223372036854775808) :
    (Instr.lookup 104 (.map (some m)) (.int .i64 id) true).run Tryz.prog w = .ok (match at? Os id with
      | some o => .tuple #[.agg #[.int .i64 (o.data.length : Int), .slice o.adr o.pages.length o.pages.length], .bool true]
      | none => .tuple #[.agg #[.int .i64 0, .slice none 0 0], .bool false]) w := by
  obtain ⟨v, ps, hrun, hv⟩ := h.map.look_ok law3 Tryz.underlying104 (zero_of info106 w) (zd := .held (.agg #[.int .i64 0, .slice none 0 0])) (zp := []) rfl (key3 hi)
  rw [hrun, has_mapD]
  rw [atKey_mapD] at hv
  simp only [hr, Option.some.injEq, Prod.mk.injEq] at hv
  have e : Os.any (fun o => decide (o.id = id)) = (at? Os id).isSome := by
    unfold at?
    rw [Bool.eq_iff_iff, List.any_eq_true, List.find?_isSome]
  rw [e]
  have hv1 := hv.1
  unfold at? at hv1 ⊢
  cases hf : Os.find? (fun o => decide (o.id = id)) with
  | none =>
    rw [hf] at hv1
    simp only [DataW.held.injEq] at hv1
    simp [hv1]
  | some o =>
    rw [hf] at hv1
    simp only [DataW.held.injEq] at hv1
    simp [hv1, Ob.val]
theorem look_some {w : World} {s g pb m n room : Nat} {nx : Int} {t : Nat → Bool} {B : Nat → Nat → Nat} {Os : List Ob} (h : Sto w s g pb m n room nx t B Os) {id : Int} (hi : -9223372036854775808 ≤ id ∧ id < 9223372036854775808) {o : Ob} (ho : at? Os id = some o) :
    (Instr.lookup 104 (.map (some m)) (.int .i64 id) true).run Tryz.prog w = .ok (.tuple #[.agg #[.int .i64 (o.data.length : Int), .slice o.adr o.pages.length o.pages.length], .bool true]) w := by
  rw [look_run h hi, ho]
theorem look_none {w : World} {s g pb m n room : Nat} {nx : Int} {t : Nat → Bool} {B : Nat → Nat → Nat} {Os : List Ob} (h : Sto w s g pb m n room nx t B Os) {id : Int} (hi : -9223372036854775808 ≤ id ∧ id < 9223372036854775808) (ho : at? Os id = none) :
    (Instr.lookup 104 (.map (some m)) (.int .i64 id) true).run Tryz.prog w = .ok (.tuple #[.agg #[.int .i64 0, .slice none 0 0], .bool false]) w := by
  rw [look_run h hi, ho]
set_option maxRecDepth 100000 in
set_option maxHeartbeats 1000000 in
theorem size_some (s g pb m n room : Nat) (nx : Int) (t : Nat → Bool) (B : Nat → Nat → Nat) (Os : List Ob) (id : Int) (o : Ob) (w : World) (h : Sto w s g pb m n room nx t B Os) (hi : -9223372036854775808 ≤ id ∧ id < 9223372036854775808) (ho : at? Os id = some o) :
    Calls Tryz.prog 18 #[.pointer (some ⟨s, 0, none⟩), .int .i64 id] w fun e w' => e = .returned (.tuple #[.int .i64 (o.data.length : Int), .bool true]) ∧ Below w.heap.size w w' := by
  have x := h.c1.1
  have hl := look_some h hi ho
  have hz := zero_of info106
  clear h
  go_enter Tryz.func18, Tryz.ntmps18
  go_wp2
  exact bodyPost_ret (v := .tuple #[.int .i64 (o.data.length : Int), .bool true]) (by simp [results, Tryz.results18, go_sem]) rfl ⟨rfl, below1 _ _⟩
set_option maxRecDepth 100000 in
set_option maxHeartbeats 1000000 in
theorem size_none (s g pb m n room : Nat) (nx : Int) (t : Nat → Bool) (B : Nat → Nat → Nat) (Os : List Ob) (id : Int) (w : World) (h : Sto w s g pb m n room nx t B Os) (hi : -9223372036854775808 ≤ id ∧ id < 9223372036854775808) (ho : at? Os id = none) :
    Calls Tryz.prog 18 #[.pointer (some ⟨s, 0, none⟩), .int .i64 id] w fun e w' => e = .returned (.tuple #[.int .i64 0, .bool false]) ∧ Below w.heap.size w w' := by
  have x := h.c1.1
  have hl := look_none h hi ho
  have hz := zero_of info106
  clear h
  go_enter Tryz.func18, Tryz.ntmps18
  go_wp2
  exact bodyPost_ret (v := .tuple #[.int .i64 0, .bool false]) (by simp [results, Tryz.results18, go_sem]) rfl ⟨rfl, below1 _ _⟩
set_option maxRecDepth 100000 in
set_option maxHeartbeats 1000000 in
theorem slook_none (s g pb m n room : Nat) (nx : Int) (t : Nat → Bool) (B : Nat → Nat → Nat) (Os : List Ob) (id off k : Int) (w : World) (h : Sto w s g pb m n room nx t B Os) (hi : -9223372036854775808 ≤ id ∧ id < 9223372036854775808) (ho : at? Os id = none) :
    Calls Tryz.prog 73 #[.pointer (some ⟨s, 0, none⟩), .int .i64 id, .int .i64 off, .int .i64 k] w fun e w' => e = .returned (.tuple #[.agg #[.int .i64 0, .slice none 0 0], .int .i64 20]) ∧ Below w.heap.size w w' := by
  have x := h.c1.1
  have x1 := cell_later (below1 w (.cells #[.int .i64 0, .slice none 0 0] 106)) x
  have hl := look_none (h.later (below1 w (.cells #[.int .i64 0, .slice none 0 0] 106))) hi ho
  have hz := zero_of info106
  clear h
  go_enter Tryz.func73, Tryz.ntmps73
  go_wp2
  refine bodyPost_ret (v := .tuple #[.agg #[.int .i64 0, .slice none 0 0], .int .i64 20]) ?_ rfl ⟨rfl, below2 _ _ _⟩
  simp [results, Tryz.results73, go_sem]
def rdOk (o : Ob) (off k : Int) : Prop := 0 ≤ off ∧ 0 ≤ k ∧ k ≤ 1024 ∧ off + k ≤ (o.data.length : Int)
set_option maxRecDepth 100000 in
set_option maxHeartbeats 2000000 in
theorem slook_bad (s g pb m n room : Nat) (nx : Int) (t : Nat → Bool) (B : Nat → Nat → Nat) (Os : List Ob) (id off k : Int) (o : Ob) (w : World) (h : Sto w s g pb m n room nx t B Os) (hi : -9223372036854775808 ≤ id ∧ id < 9223372036854775808) (ho : at? Os id = some o) (hb : ¬ rdOk o off k) :
    Calls Tryz.prog 73 #[.pointer (some ⟨s, 0, none⟩), .int .i64 id, .int .i64 off, .int .i64 k] w fun e w' => e = .returned (.tuple #[.agg #[.int .i64 0, .slice none 0 0], .int .i64 5]) ∧ Below w.heap.size w w' := by
  have x := h.c1.1
  have x1 := cell_later (below1 w (.cells #[.int .i64 0, .slice none 0 0] 106)) x
  have hl := look_some (h.later (below1 w (.cells #[.int .i64 0, .slice none 0 0] 106))) hi ho
  have hz := zero_of info106
  have hbig := h.big o (at_mem ho).1
  obtain ⟨sz, hsz⟩ : ∃ sz, sz = o.data.length := ⟨_, rfl⟩
  rw [← hsz] at hl hbig
  unfold rdOk at hb
  rw [← hsz] at hb
  have HB := hid hb
  clear h hsz hb
  by_cases h1 : off < 0
  · have hd1 : decide (off < 0) = true := decide_eq_true h1
    go_enter Tryz.func73, Tryz.ntmps73
    go_wp2
    refine bodyPost_ret (v := .tuple #[.agg #[.int .i64 0, .slice none 0 0], .int .i64 5]) ?_ rfl ⟨rfl, below2 _ _ _⟩
    simp [results, Tryz.results73, go_sem]
  have hd1 : decide (off < 0) = false := decide_eq_false h1
  by_cases h2 : k < 0
  · have hd2 : decide (k < 0) = true := decide_eq_true h2
    go_enter Tryz.func73, Tryz.ntmps73
    go_wp2
    refine bodyPost_ret (v := .tuple #[.agg #[.int .i64 0, .slice none 0 0], .int .i64 5]) ?_ rfl ⟨rfl, below2 _ _ _⟩
    simp [results, Tryz.results73, go_sem]
  have hd2 : decide (k < 0) = false := decide_eq_false h2
  by_cases h3 : k > 1024
  · have hd3 : decide (k > 1024) = true := decide_eq_true h3
    go_enter Tryz.func73, Tryz.ntmps73
    go_wp2
    refine bodyPost_ret (v := .tuple #[.agg #[.int .i64 0, .slice none 0 0], .int .i64 5]) ?_ rfl ⟨rfl, below2 _ _ _⟩
    simp [results, Tryz.results73, go_sem]
  have hd3 : decide (k > 1024) = false := decide_eq_false h3
  have hd4 : decide (off > (sz : Int) - k) = true := decide_eq_true (by have := HB.out; omega)
  go_enter Tryz.func73, Tryz.ntmps73
  go_wp2
  refine bodyPost_ret (v := .tuple #[.agg #[.int .i64 0, .slice none 0 0], .int .i64 5]) ?_ rfl ⟨rfl, below2 _ _ _⟩
  simp [results, Tryz.results73, go_sem]
set_option maxRecDepth 100000 in
set_option maxHeartbeats 2000000 in
theorem slook_ok (s g pb m n room : Nat) (nx : Int) (t : Nat → Bool) (B : Nat → Nat → Nat) (Os : List Ob) (id off k : Int) (o : Ob) (w : World) (h : Sto w s g pb m n room nx t B Os) (hi : -9223372036854775808 ≤ id ∧ id < 9223372036854775808) (ho : at? Os id = some o) (hb : rdOk o off k) :
    Calls Tryz.prog 73 #[.pointer (some ⟨s, 0, none⟩), .int .i64 id, .int .i64 off, .int .i64 k] w fun e w' => e = .returned (.tuple #[.agg #[.int .i64 (o.data.length : Int), .slice o.adr o.pages.length o.pages.length], .int .i64 0]) ∧ Below w.heap.size w w' := by
  have x := h.c1.1
  have x1 := cell_later (below1 w (.cells #[.int .i64 0, .slice none 0 0] 106)) x
  have hl := look_some (h.later (below1 w (.cells #[.int .i64 0, .slice none 0 0] 106))) hi ho
  have hz := zero_of info106
  have hbig := h.big o (at_mem ho).1
  obtain ⟨sz, hsz⟩ : ∃ sz, sz = o.data.length := ⟨_, rfl⟩
  rw [← hsz] at hl hbig ⊢
  unfold rdOk at hb
  rw [← hsz] at hb
  clear h hsz
  have hd1 : decide (off < 0) = false := decide_eq_false (by omega)
  have hd2 : decide (k < 0) = false := decide_eq_false (by omega)
  have hd3 : decide (k > 1024) = false := decide_eq_false (by omega)
  have hd4 : decide (off > (sz : Int) - k) = false := decide_eq_false (by omega)
  obtain ⟨hb1, hb2, hb3, hb4⟩ := hb
  go_enter Tryz.func73, Tryz.ntmps73
  go_wp2
  refine bodyPost_ret (v := .tuple #[.agg #[.int .i64 (sz : Int), .slice o.adr o.pages.length o.pages.length], .int .i64 0]) ?_ rfl ⟨rfl, ?_⟩
  · simp [results, Tryz.results73, go_sem]
  · exact below2 _ _ _
end Go.Proofs.YtnjadfgfpebkdaaGreat.S
namespace Go.Proofs.YtnjadfgfpebkdaaGreat.S
open Go.RowKit
set_option linter.unusedVariables false

/-- Where the piece i of the bytes from off on begins. -/
def pos (off k i : Nat) : Nat := if i = 0 then off else min (off + k) ((off / 64 + i) * 64)
def pcN (off k : Nat) : Nat := if k = 0 then 0 else (off + k - 1) / 64 - off / 64 + 1
theorem pos_zero (off k : Nat) : pos off k 0 = off := by simp [pos]
theorem pos_more (off k i : Nat) : i < pcN off k ↔ pos off k i < off + k := by
  unfold pcN pos
  by_cases hk : k = 0
  · simp [hk]
    split <;> omega
  · rw [if_neg hk]
    by_cases hi : i = 0
    · simp [hi]; omega
    · rw [if_neg hi]
      omega
theorem pos_end (off k : Nat) : pos off k (pcN off k) = off + k := by
  unfold pcN pos
  by_cases hk : k = 0
  · simp [hk]
  · rw [if_neg hk, if_neg (by omega)]
    omega
theorem pos_le (off k i : Nat) : off ≤ pos off k i ∧ pos off k i ≤ off + k := by
  unfold pos
  split <;> omega
theorem pos_div {off k i : Nat} (h : pos off k i < off + k) : pos off k i / 64 = off / 64 + i := by
  unfold pos at h ⊢
  split <;> rename_i hi
  · omega
  · rw [if_neg hi] at h
    omega
theorem pos_next {off k i : Nat} (h : pos off k i < off + k) : pos off k (i + 1) = pos off k i + min (off + k - pos off k i) (64 - pos off k i % 64) := by
  have h1 := pos_div h
  have h2 : pos off k (i + 1) = min (off + k) ((off / 64 + (i + 1)) * 64) := by simp [pos]
  rw [h2]
  omega
/-- The cells of the pieces. -/
def pcV (pages : List Nat) (off k i : Nat) : List Value := [.int .i64 ((pages.getD (off / 64 + i) 0 : Nat) : Int), .int .i64 ((pos off k i % 64 : Nat) : Int), .int .i64 ((pos off k (i + 1) - pos off k i : Nat) : Int)]
def pcs (pages : List Nat) (off k : Nat) : Nat → List Value
  | 0 => []
  | c + 1 => pcs pages off k c ++ pcV pages off k c
theorem pcs_length (pages : List Nat) (off k : Nat) : ∀ c, (pcs pages off k c).length = 3 * c
  | 0 => rfl
  | c + 1 => by rw [pcs, List.length_append, pcs_length pages off k c]; simp [pcV]; omega
theorem pcs_get (pages : List Nat) (off k : Nat) (j : Nat) (hj : j < 3) : ∀ c i, i < c → (pcs pages off k c)[3 * i + j]? = (pcV pages off k i)[j]?
  | 0, i, h => by omega
  | c + 1, i, h => by
    rw [pcs]
    by_cases e : i = c
    · subst e
      rw [List.getElem?_append_right (by rw [pcs_length]; omega), pcs_length]
      congr 1
      omega
    · rw [List.getElem?_append_left (by rw [pcs_length]; omega)]
      exact pcs_get pages off k j hj c i (by omega)
theorem own_below {w w1 : World} {base : Nat} {e : TypeId} {size : Nat} {v : Value} {n : Nat} {xs : List Value} (hb : Below w.heap.size w w1) (h : w.ownsRow base e size v n xs) : w1.ownsRow base e size v n xs := own_but (S := fun _ => False) (But.of hb) h (fun _ _ h => h)
theorem append_piece {w : World} {base : Nat} {a : Option Addr} {i cap : Nat} {L : List Value} (x y z : Int) (h : w.ownsRow base 155 3 (.slice a i cap) i L) (hb : base ≤ w.heap.size) (hi : i ≤ 4096) (bk : Nat) (hbk : bk = w.heap.size) :
    ∃ a' cap' w', (Builtin.append_ #[152, 152] 152 #[.slice a i cap, .slice (some ⟨bk, 0, none⟩) 1 1]).run Tryz.prog (w.alloc (.cells #[.int .i64 x, .int .i64 y, .int .i64 z] 155)) = .ok (.slice a' (i + 1) cap') w' ∧ w'.ownsRow base 155 3 (.slice a' (i + 1) cap') (i + 1) (L ++ [.int .i64 x, .int .i64 y, .int .i64 z]) ∧ Below base w w' := by
  subst hbk
  obtain ⟨i0, hi0, hz0, hz1, hz2⟩ := info_parts info155
  have o1 := own_below (below1 w (.cells #[.int .i64 x, .int .i64 y, .int .i64 z] 155)) h
  have hnew : ∀ j u, [Value.int .i64 x, .int .i64 y, .int .i64 z][j]? = some u → (w.alloc (.cells #[.int .i64 x, .int .i64 y, .int .i64 z] 155)).cell? ((⟨w.heap.size, 0, none⟩ : Addr).add j) = some u := by
    intro j u hu
    rw [addr_add0]
    have hj : j < 3 := (List.getElem?_eq_some_iff.1 hu).1
    have : j = 0 ∨ j = 1 ∨ j = 2 := by omega
    rcases this with rfl | rfl | rfl <;> (simp at hu; subst hu; simp [go_sem])
  obtain ⟨v2, w2, hr2, o2, g2, _, _⟩ := run_append_own_at (P := Tryz.prog) (w.alloc (.cells #[.int .i64 x, .int .i64 y, .int .i64 z] 155)) base 152 152 155 i0 _ 3 24 Tryz.underlying152 hi0 hz0 hz1 hz2 rfl (by decide) _ i _ o1 ⟨w.heap.size, 0, none⟩ 1 1 [.int .i64 x, .int .i64 y, .int .i64 z] rfl hnew (fun u hu => by
    simp only [List.mem_cons, List.not_mem_nil, or_false] at hu
    rcases hu with rfl | rfl | rfl <;> rfl) (by unfold maxLen; omega) (by omega) (by simp; omega)
  obtain ⟨a', cap', rfl⟩ : ∃ a' cap', v2 = .slice a' (i + 1) cap' := by
    rcases o2.2 with ⟨h, h'⟩ | ⟨g', cap', _, h, _⟩
    · omega
    · exact ⟨_, cap', h⟩
  exact ⟨a', cap', w2, hr2, o2, ((below1 w (.cells #[.int .i64 x, .int .i64 y, .int .i64 z] 155)).mono hb).grown g2 (by simp; omega) (fun j hj => (own_block o1 j hj).1)⟩
/-- A number's size, for measures. -/
def ivN : Value → Nat
  | .int _ a => a.toNat
  | _ => 0
def PcRel (w : World) (pages : List Nat) (off k : Nat) (v1 v2 v7 : Value) (w' : World) : Prop :=
  ∃ (i p : Nat) (a : Option Addr) (cap : Nat), v1 = .int .i64 (p : Int) ∧ v2 = .int .i64 ((off + k - p : Nat) : Int) ∧ v7 = .slice a i cap ∧ p = pos off k i ∧ i ≤ pcN off k ∧ w'.ownsRow w.heap.size 155 3 (.slice a i cap) i (pcs pages off k i) ∧ Below w.heap.size w w'
theorem pc_next {W w2 : World} {pages : List Nat} {off k i p r u st q pg f cap' : Nat} {a' : Option Addr} (hp : p = pos off k i) (hq : q < pages.length) (hE : off + k - p = r ∧ p % 64 = st ∧ 64 - st = u ∧ q = off / 64 + i ∧ pg = pages[q] ∧ pos off k (i + 1) = p + min r u) (hi : i < pcN off k) (hf : f = min r u)
    (hO : w2.ownsRow W.heap.size 155 3 (.slice a' (i + 1) cap') (i + 1) (pcs pages off k i ++ [.int .i64 (pg : Int), .int .i64 (st : Int), .int .i64 (f : Int)])) (hB : Below W.heap.size W w2) :
    PcRel W pages off k (.int .i64 ((p : Int) + (f : Int))) (.int .i64 ((r : Int) - (f : Int))) (.slice a' (i + 1) cap') w2 := by
  obtain ⟨e1, e2, e3, e4, e5, e6⟩ := hE
  refine ⟨i + 1, p + f, a', cap', by rw [Int.natCast_add], ?_, rfl, by rw [e6, hf], by omega, ?_, hB⟩
  · congr 1
    omega
  · have e : pcV pages off k i = [.int .i64 (pg : Int), .int .i64 (st : Int), .int .i64 (f : Int)] := by
      unfold pcV
      rw [← hp, e2, e6, ← e4, e5, List.getD_eq_getElem?_getD, List.getElem?_eq_getElem hq, hf, Nat.add_sub_cancel_left]
      rfl
    rw [pcs, e]
    exact hO
set_option maxRecDepth 100000 in
set_option maxHeartbeats 1000000 in
theorem pieces_any (sz : Int) (adr : Option Addr) (pages : List Nat) (off k : Nat) (w : World) (hR : Row w adr pages.length pages.length (ints (nats pages))) (ho : off + k ≤ 64 * pages.length) (hb : off + k ≤ 4096) :
    Calls Tryz.prog 74 #[.agg #[.int .i64 sz, .slice adr pages.length pages.length], .int .i64 (off : Int), .int .i64 (k : Int)] w fun e w' => ∃ a cap, e = .returned (.slice a (pcN off k) cap) ∧ w'.ownsRow w.heap.size 155 3 (.slice a (pcN off k) cap) (pcN off k) (pcs pages off k (pcN off k)) ∧ Below w.heap.size w w' := by
  have HR := hid hR
  obtain ⟨W, hW⟩ : ∃ W, W = w.alloc (.cells #[.int .i64 sz, .slice adr pages.length pages.length] 106) := ⟨_, rfl⟩
  have HBW : Hid (Below w.heap.size w W) := hid (by rw [hW]; exact below1 _ _)
  have HC : Hid (W.cell? ⟨w.heap.size, 1, none⟩ = some (.slice adr pages.length pages.length)) := hid (by rw [hW]; exact (lies_new _ _ _ 1 _ rfl).1)
  have HWS : Hid (w.heap.size < W.heap.size) := hid (by rw [hW]; simp)
  have HO := hid ho
  clear hR ho
  go_enter Tryz.func74, Tryz.ntmps74
  go_upto_region 2 with fail
  rw [← hW]
  clear hW
  go_loopw [1, 2, 7] (PcRel W pages off k) (fun _ n _ _ => ivN n)
  case atStart => exact ⟨0, off, none, 0, rfl, by rw [Nat.add_sub_cancel_left], rfl, (pos_zero _ _).symm, Nat.zero_le _, ⟨rfl, .inl ⟨rfl, rfl⟩⟩, Below.refl _ _⟩
  case round =>
    obtain ⟨i, p, a, cap, rfl, rfl, rfl, hp, hi, hO, hB⟩ := hrel
    have hpl := pos_le off k i
    rw [← hp] at hpl
    have HP := hid hp
    have HB := hid hB
    have HOW := hid hO
    clear hB hO
    by_cases hlt : p < off + k
    · have h1 := pos_div (off := off) (k := k) (i := i) (by omega)
      have h2 := pos_next (off := off) (k := k) (i := i) (by omega)
      have hin := (pos_more off k i).2 (by omega)
      rw [← hp] at h1 h2
      obtain ⟨r, hr⟩ : ∃ r, r = off + k - p := ⟨_, rfl⟩
      rw [← hr] at h2
      rw [← hr]
      obtain ⟨st, hst⟩ : ∃ st, st = p % 64 := ⟨_, rfl⟩
      rw [← hst] at h2
      have hst64 : st < 64 := by omega
      obtain ⟨u, hu⟩ : ∃ u, u = 64 - st := ⟨_, rfl⟩
      obtain ⟨q, hq⟩ : ∃ q, q = off / 64 + i := ⟨_, rfl⟩
      have hrem : (p : Int) % 64 = (st : Int) := by omega
      have hquo : (p : Int) / 64 = (q : Int) := by omega
      have hqn : p / 64 = q := by omega
      have h64 : (64 : Int) - (st : Int) = (u : Int) := by omega
      have hr0 : 0 < r := by omega
      have hr1 : r ≤ 4096 := by omega
      have hp1 : p ≤ 4096 := by omega
      have hu1 : u ≤ 64 := by omega
      have hql : q < pages.length := by have := HO.out; omega
      obtain ⟨pg, hpg⟩ : ∃ pg, pg = pages[q] := ⟨_, rfl⟩
      obtain ⟨bb, oo, rfl, hcell⟩ := HR.out.plain (by omega)
      have y0 := cell_later HB.out HC.out
      have y1 := cell_later HB.out (cell_later HBW.out (hcell q _ (ints_nats_get pages q hql)))
      rw [← hpg] at y1
      have HE := hid (show (off + k - p = r ∧ p % 64 = st ∧ 64 - st = u ∧ q = off / 64 + i ∧ pg = pages[q] ∧ pos off k (i + 1) = p + min r u) from ⟨hr.symm, hst.symm, hu.symm, hq, hpg, by rw [hu]; exact h2⟩)
      have HI := hid hin
      have HI0 := hid hi
      clear hcell hr hst hu hq hpg h1 h2 hp hlt hpl hin hi
      by_cases hm : r ≤ u
      · have hm2 : (r : Int) ≤ (u : Int) := by omega
        obtain ⟨a', cap', w2, hrun, hO2, hB2⟩ := append_piece (pg : Int) (st : Int) (r : Int) HOW.out HB.out.size (by have := HI.out; unfold pcN at this; split at this <;> omega) wr.heap.size rfl
        have HRUN := hid hrun
        have HO2 := hid hO2
        have HB2 := hid (HB.out.trans hB2)
        clear hrun hO2 hB2
        go_wp2_with (first | (at_builtin; refine wpList_append_known rfl _ _ 152 rfl _ _ rfl rfl _ w2 HRUN.out ?_))
        refine ⟨?_, by simp [ivN]; omega⟩
        have := pc_next HP.out hql HE.out HI.out (f := r) (by omega) HO2.out HB2.out
        simpa using this
      · have hm1 : u < r := by omega
        have hm2 : (u : Int) < (r : Int) := by omega
        obtain ⟨a', cap', w2, hrun, hO2, hB2⟩ := append_piece (pg : Int) (st : Int) (u : Int) HOW.out HB.out.size (by have := HI.out; unfold pcN at this; split at this <;> omega) wr.heap.size rfl
        have HRUN := hid hrun
        have HO2 := hid hO2
        have HB2 := hid (HB.out.trans hB2)
        clear hrun hO2 hB2
        go_wp2_with (first | (at_builtin; refine wpList_append_known rfl _ _ 152 rfl _ _ rfl rfl _ w2 HRUN.out ?_))
        exact ⟨pc_next HP.out hql HE.out HI.out (by omega) HO2.out HB2.out, by simp [ivN]; have := HE.out; omega⟩
    · obtain rfl : p = off + k := by omega
      have hie : i = pcN off k := by
        have h1 := pos_more off k i
        omega
      have HIE := hid hie
      have e0 : off + k - (off + k) = 0 := by omega
      rw [e0]
      simp only [Int.cast_ofNat_Int]
      clear hie hp e0 hi hpl hlt
      go_wp2
      go_ret
      rw [HIE.out] at HOW
      refine ⟨a, cap, by rw [HIE.out]; rfl, ?_, below_call HBW.out HB.out⟩
      exact own_mono HOW.out (Nat.le_of_lt HWS.out)
end Go.Proofs.YtnjadfgfpebkdaaGreat.S
