import Derived.Test.YtejkbeeffllpfaaK1
namespace Go.Proofs.Ytejkbeeffllpfaa
open Go.RowKit
set_option linter.unusedVariables false

/-- The program's store: its box s, the arena's box g, its pages pb, its map m. -/
structure Sto (w : World) (s g pb m n room : Nat) (nx : Int) (t : Nat → Bool) (B : Nat → Nat → Nat) (Os : List Ob) : Prop where
  arn : Arn w g pb n t B
  c0 : Lies w ⟨s, 0, none⟩ (.pointer (some ⟨g, 0, none⟩))
  c1 : Lies w ⟨s, 1, none⟩ (.map (some m))
  c2 : Lies w ⟨s, 2, none⟩ (.int .i64 (room : Int))
  c3 : Lies w ⟨s, 3, none⟩ (.int .i64 nx)
  map : w.ownsMap Try.prog 3 hr m Os.length (mapD Os)
  sg : s ≠ g
  sp : s ≠ pb
  sm : s ≠ m
  gm : g ≠ m
  pm : pb ≠ m
  rows : ∀ o ∈ Os, Row w o.adr o.pages.length o.pages.length (ints (nats o.pages))
  off : ∀ o ∈ Os, ∀ k, Blk o.adr k → k ≠ s ∧ k ≠ g ∧ k ≠ pb ∧ k ≠ m ∧ k < w.heap.size
  len : ∀ o ∈ Os, o.pages.length = needN o.data.length
  nd : (allP Os).Nodup
  tks : ∀ i, t i = decide (i ∈ allP Os)
  bytes : ∀ o ∈ Os, ∀ j, j < o.data.length → B (o.pages.getD (j / 64) 0) (j % 64) = o.data.getD j 0
  rise : Os.Pairwise (fun a b => a.id < b.id)
  ids : ∀ o ∈ Os, 1 ≤ o.id ∧ o.id < nx
  nx1 : 1 ≤ nx ∧ nx ≤ 4611686018427387905
  rm : Os.length ≤ room ∧ room ≤ 64
  big : ∀ o ∈ Os, o.data.length ≤ 4096
/-- The blocks that its calls write. -/
def Sb (s g pb m : Nat) (k : Nat) : Prop := k = s ∨ k = g ∨ k = pb ∨ k = m
/-- The blocks of its objects' lists. -/
def Rb (Os : List Ob) (k : Nat) : Prop := ∃ o ∈ Os, Blk o.adr k
theorem Sto.but {S : Nat → Prop} {w w' : World} {s g pb m n room : Nat} {nx : Int} {t : Nat → Bool} {B : Nat → Nat → Nat} {Os : List Ob} (hb : But S w w') (h : Sto w s g pb m n room nx t B Os) (h1 : ∀ k, Sb s g pb m k → ¬ S k) (h2 : ∀ k, Rb Os k → ¬ S k) : Sto w' s g pb m n room nx t B Os :=
  { h with
    arn := h.arn.but hb (h1 _ (.inr (.inl rfl))) (h1 _ (.inr (.inr (.inl rfl))))
    c0 := h.c0.but hb (h1 _ (.inl rfl))
    c1 := h.c1.but hb (h1 _ (.inl rfl))
    c2 := h.c2.but hb (h1 _ (.inl rfl))
    c3 := h.c3.but hb (h1 _ (.inl rfl))
    map := owns_but hb h.map (h1 _ (.inr (.inr (.inr rfl))))
    rows := fun o ho => (h.rows o ho).but hb (fun k hk => h2 k ⟨o, ho, hk⟩)
    off := fun o ho k hk => by
      obtain ⟨a, b, c, d, e⟩ := h.off o ho k hk
      exact ⟨a, b, c, d, Nat.lt_of_lt_of_le e hb.size⟩ }
theorem Sto.later {w w' : World} {s g pb m n room : Nat} {nx : Int} {t : Nat → Bool} {B : Nat → Nat → Nat} {Os : List Ob} (hb : Below w.heap.size w w') (h : Sto w s g pb m n room nx t B Os) : Sto w' s g pb m n room nx t B Os :=
  h.but (S := fun _ => False) (But.of hb) (fun _ _ h => h) (fun _ _ h => h)
theorem Sto.mem {w : World} {s g pb m n room : Nat} {nx : Int} {t : Nat → Bool} {B : Nat → Nat → Nat} {Os : List Ob} (h : Sto w s g pb m n room nx t B Os) {o : Ob} (ho : o ∈ Os) {p : Nat} (hp : p ∈ o.pages) : t p = true ∧ p < n := by
  have h1 : t p = true := by
    rw [h.tks p]
    exact decide_eq_true (List.mem_flatMap.2 ⟨o, ho, hp⟩)
  exact ⟨h1, h.arn.only p h1⟩
theorem Sto.count {w : World} {s g pb m n room : Nat} {nx : Int} {t : Nat → Bool} {B : Nat → Nat → Nat} {Os : List Ob} (h : Sto w s g pb m n room nx t B Os) : (lst n t false).length + usedN Os = n := by
  rw [← allP_length Os h.len]
  refine lst_count h.nd (fun i hi => h.arn.only i ?_) h.tks
  rw [h.tks i]
  exact decide_eq_true hi
theorem Sto.small {w : World} {s g pb m n room : Nat} {nx : Int} {t : Nat → Bool} {B : Nat → Nat → Nat} {Os : List Ob} (h : Sto w s g pb m n room nx t B Os) {o : Ob} (ho : o ∈ Os) : ∀ x ∈ o.data, x < 256 := by
  intro x hx
  obtain ⟨j, hj, rfl⟩ := List.getElem_of_mem hx
  have := h.bytes o ho j hj
  rw [List.getD_eq_getElem?_getD, List.getD_eq_getElem?_getD, List.getElem?_eq_getElem hj] at this
  simp only [Option.getD_some] at this
  rw [← this]
  exact h.arn.small _ _

set_option maxRecDepth 100000 in
set_option maxHeartbeats 1000000 in
theorem need_any (k : Nat) (w : World) (hk : k ≤ 4096) : Calls Try.prog 26 #[.int .i64 (k : Int)] w fun e w' => e = .returned (.int .i64 ((needN k : Nat) : Int)) ∧ w' = w := by
  have e : (((k : Int) + 64 - 1).tdiv 64) = ((needN k : Nat) : Int) := by
    unfold needN
    rw [show (k : Int) + 64 - 1 = ((k + 63 : Nat) : Int) by omega]
    rfl
  go_enter Try.func26, Try.ntmps26
  go_wp2
  go_ret
  exact ⟨ret_int (by
    have h : needN k ≤ 64 := by unfold needN; omega
    unfold wrap64
    omega), rfl⟩
set_option maxRecDepth 100000 in
set_option maxHeartbeats 1000000 in
theorem sfree_any (s g pb m n room : Nat) (nx : Int) (t : Nat → Bool) (B : Nat → Nat → Nat) (Os : List Ob) (w : World) (h : Sto w s g pb m n room nx t B Os) :
    Calls Try.prog 9 #[.pointer (some ⟨s, 0, none⟩)] w fun e w' => e = .returned (.int .i64 ((n - usedN Os : Nat) : Int)) ∧ Below w.heap.size w w' := by
  have x := h.c0.1
  have H := hid h.arn
  have HC := hid h.count
  clear h
  go_enter Try.func9, Try.ntmps9
  go_wp2_with (first | (go_at_call 27; refine (free_any g pb n t B _ H.out).mono ?_; rintro e w1 ⟨rfl, hb⟩))
  go_ret
  exact ⟨ret_int (by have := HC.out; omega), hb⟩
set_option maxRecDepth 100000 in
set_option maxHeartbeats 1000000 in
theorem snext_any (s g pb m n room : Nat) (nx : Int) (t : Nat → Bool) (B : Nat → Nat → Nat) (Os : List Ob) (w : World) (h : Sto w s g pb m n room nx t B Os) :
    Calls Try.prog 23 #[.pointer (some ⟨s, 0, none⟩)] w fun e w' => e = .returned (.int .i64 nx) ∧ w' = w := by
  have x := h.c3.1
  clear h
  go_enter Try.func23, Try.ntmps23
  go_wp2
  go_ret
  exact ⟨rfl, rfl⟩
theorem lies_new (w : World) (cs : Array Value) (T : TypeId) (i : Nat) (v : Value) (h : cs[i]? = some v) : Lies (w.alloc (.cells cs T)) ⟨w.heap.size, i, none⟩ v := by
  have hh := heap_alloc_new w (.cells cs T)
  exact ⟨by rw [cell_of_row _ _ _ _ _ _ hh]; exact h, by simp only [World.frozen?, hh]; simp⟩
theorem info64 : (Try.prog.info? 64).map (fun i => (i.zero, i.size, i.bytes)) = some (some (.agg #[.pointer none, .map none, .int .i64 0, .int .i64 0]), 4, 32) := by kernel_rfl
theorem info69 : (Try.prog.info? 69).map (fun i => (i.zero, i.size, i.bytes)) = some (some (.agg #[.int .i64 0, .slice none 0 0]), 2, 32) := by kernel_rfl
theorem info75 : (Try.prog.info? 75).map (fun i => (i.zero, i.size, i.bytes)) = some (some (.agg #[.int .i64 0, .int .i64 0, .int .i64 0]), 3, 24) := by kernel_rfl
theorem law3 : Maps.Keyed Try.prog 3 := Maps.int_keyed Try.underlying3
theorem key3 {a : Int} (h : -9223372036854775808 ≤ a ∧ a < 9223372036854775808) : keyOf Try.prog 3 (.int .i64 a) = some (.int .i64 a) := Maps.keyOf_int_mk Try.underlying3 (WalkArith.wf_i64 (by omega))
set_option maxRecDepth 100000 in
set_option maxHeartbeats 1000000 in
theorem snew_ok (room n : Nat) (w : World) (h1 : 1 ≤ room ∧ room ≤ 64) (h2 : 1 ≤ n ∧ n ≤ 256) :
    Calls Try.prog 6 #[.int .i64 (room : Int), .int .i64 (n : Int)] w fun e w' => ∃ s g pb m, e = .returned (.tuple #[.pointer (some ⟨s, 0, none⟩), .int .i64 0]) ∧ Sto w' s g pb m n room 1 (fun _ => false) (fun _ _ => 0) [] ∧ (∀ k, Sb s g pb m k → w.heap.size ≤ k ∧ k < w'.heap.size) ∧ Below w.heap.size w w' := by
  have hd1 : decide ((room : Int) < 1) = false := decide_eq_false (by omega)
  have hd2 : decide ((room : Int) > 64) = false := decide_eq_false (by omega)
  have hd3 : decide ((n : Int) < 1) = false := decide_eq_false (by omega)
  have hmm := @run_makeMap Try.prog
  have hz := zero_of info64
  go_enter Try.func6, Try.ntmps6
  go_wp2_with (first | (go_at_call 22; refine (new_ok n _ (by omega)).mono ?_; rintro e w1 ⟨g, pb, rfl, A, G1, G2, hb⟩; have HA := hid A; have HG1 := hid G1; have HG2 := hid G2; have HB := hid hb; clear A G1 G2 hb))
  have hs := HB.out.size
  have hb1 : Below w1.heap.size w1 (w1.alloc (Obj.map #[] 0)) := below1 _ _
  have hA2 : w1.heap.size + 1 = (w1.alloc (Obj.map #[] 0)).heap.size := by simp
  rw [hA2]
  generalize hC : (#[Value.pointer (some ⟨g, 0, none⟩), Value.map (some w1.heap.size), Value.int .i64 (room : Int), Value.int .i64 1] : Array Value) = C
  have hb2 := below2 w1 (Obj.map #[] 0) (.cells C 64)
  have hgl := HA.out.glt
  have hpl := HA.out.lt
  refine bodyPost_ret (v := .tuple #[.pointer (some ⟨(w1.alloc (Obj.map #[] 0)).heap.size, 0, none⟩), .int .i64 0]) (by simp [results, Try.results6, go_sem]) rfl ⟨_, g, pb, w1.heap.size, rfl, ⟨HA.out.later hb2, ?_, ?_, ?_, ?_, ?_, by simp; omega, by simp; omega, by simp, by omega, by omega, fun o ho => (by cases ho), fun o ho => (by cases ho), fun o ho => (by cases ho), by simp [allP], fun i => by simp [allP], fun o ho => (by cases ho), List.Pairwise.nil, fun o ho => (by cases ho), by omega, ⟨by simp, h1.2⟩, fun o ho => (by cases ho)⟩, ?_, below_call HB.out hb2⟩
  · exact lies_new _ _ _ 0 _ (by rw [← hC]; rfl)
  · exact lies_new _ _ _ 1 _ (by rw [← hC]; rfl)
  · exact lies_new _ _ _ 2 _ (by rw [← hC]; rfl)
  · exact lies_new _ _ _ 3 _ (by rw [← hC]; rfl)
  · exact (World.ownsMap_made w1 Try.prog 3 hr).alloc _
  · have h1 := HG1.out
    have h2 := HG2.out
    rintro k (rfl | rfl | rfl | rfl) <;> simp <;> omega
set_option maxRecDepth 100000 in
set_option maxHeartbeats 1000000 in
theorem snew_bad (room n : Int) (w : World) (h : ¬ ((1 ≤ room ∧ room ≤ 64) ∧ (1 ≤ n ∧ n ≤ 256))) :
    Calls Try.prog 6 #[.int .i64 room, .int .i64 n] w fun e w' => e = .returned (.tuple #[.pointer none, .int .i64 16]) ∧ w' = w := by
  by_cases h1 : room < 1
  · have hd1 : decide (room < 1) = true := decide_eq_true h1
    go_enter Try.func6, Try.ntmps6
    go_wp2
    exact bodyPost_ret (v := .tuple #[.pointer none, .int .i64 16]) (by simp [results, Try.results6, go_sem]) rfl ⟨rfl, rfl⟩
  have hd1 : decide (room < 1) = false := decide_eq_false h1
  by_cases h2 : room > 64
  · have hd2 : decide (room > 64) = true := decide_eq_true h2
    go_enter Try.func6, Try.ntmps6
    go_wp2
    exact bodyPost_ret (v := .tuple #[.pointer none, .int .i64 16]) (by simp [results, Try.results6, go_sem]) rfl ⟨rfl, rfl⟩
  have hd2 : decide (room > 64) = false := decide_eq_false h2
  by_cases h3 : n < 1
  · have hd3 : decide (n < 1) = true := decide_eq_true h3
    go_enter Try.func6, Try.ntmps6
    go_wp2
    exact bodyPost_ret (v := .tuple #[.pointer none, .int .i64 16]) (by simp [results, Try.results6, go_sem]) rfl ⟨rfl, rfl⟩
  have hd3 : decide (n < 1) = false := decide_eq_false h3
  have h4 : 256 < n := by omega
  go_enter Try.func6, Try.ntmps6
  go_wp2_with (first | (go_at_call 22; refine (new_bad n _ (.inr h4)).mono ?_; rintro e w1 ⟨rfl, hw⟩; obtain rfl := hw.symm))
  exact bodyPost_ret (v := .tuple #[.pointer none, .int .i64 16]) (by simp [results, Try.results6, go_sem]) rfl ⟨rfl, rfl⟩
/-- What May answers. -/
def mayE (room n : Nat) (nx : Int) (Os : List Ob) (size : Int) : Int :=
  if size < 0 ∨ 4096 < size then 6 else if room ≤ Os.length ∨ 4611686018427387904 < nx then 7 else if n - usedN Os < needN size.toNat then 8 else 0
set_option maxRecDepth 100000 in
set_option maxHeartbeats 1000000 in
theorem may_any (s g pb m n room : Nat) (nx : Int) (t : Nat → Bool) (B : Nat → Nat → Nat) (Os : List Ob) (size : Int) (w : World) (h : Sto w s g pb m n room nx t B Os) :
    Calls Try.prog 24 #[.pointer (some ⟨s, 0, none⟩), .int .i64 size] w fun e w' => e = .returned (.int .i64 (mayE room n nx Os size)) ∧ Below w.heap.size w w' := by
  obtain ⟨E, hE⟩ : ∃ E, E = mayE room n nx Os size := ⟨_, rfl⟩
  rw [← hE]
  have HE := hid hE
  have H := hid h
  clear hE
  by_cases h1 : size < 0
  · have hd1 : decide (size < 0) = true := decide_eq_true h1
    clear h
    go_enter Try.func24, Try.ntmps24
    go_wp2
    go_ret
    exact ⟨ret_int (by rw [HE.out, mayE, if_pos (.inl h1)]), Below.refl _ _⟩
  have hd1 : decide (size < 0) = false := decide_eq_false h1
  by_cases h2 : size > 4096
  · have hd2 : decide (size > 4096) = true := decide_eq_true h2
    clear h
    go_enter Try.func24, Try.ntmps24
    go_wp2
    go_ret
    exact ⟨ret_int (by rw [HE.out, mayE, if_pos (.inr h2)]), Below.refl _ _⟩
  have hd2 : decide (size > 4096) = false := decide_eq_false h2
  obtain ⟨k, rfl⟩ : ∃ k : Nat, size = (k : Int) := ⟨size.toNat, by omega⟩
  have hk : k ≤ 4096 := by omega
  have e1 : mayE room n nx Os (k : Int) = if room ≤ Os.length ∨ 4611686018427387904 < nx then 7 else if n - usedN Os < needN k then 8 else 0 := by
    rw [mayE, if_neg (by omega), Int.toNat_natCast]
  rw [e1] at HE
  have x1 := h.c1.1
  have x2 := h.c2.1
  have x3 := h.c3.1
  have hlen := fun d : Nat => (h.later (below_drewN (Below.refl _ _) d)).map.len Try.underlying62 3
  simp only [size_mapD] at hlen
  obtain ⟨len, hl⟩ : ∃ len, len = Os.length := ⟨_, rfl⟩
  rw [← hl] at hlen
  have HL := hid hl
  clear h e1 h1 h2 hl
  by_cases h3 : (len : Int) ≥ (room : Int)
  · have hd3 : decide ((len : Int) ≥ (room : Int)) = true := decide_eq_true h3
    go_enter Try.func24, Try.ntmps24
    go_wp2
    go_quiet (fail)
    go_wp2
    go_ret
    exact ⟨ret_int (by rw [HE.out, if_pos (.inl (by have := HL.out; omega))]), below_drewN (Below.refl _ _) _⟩
  have hd3 : decide ((len : Int) ≥ (room : Int)) = false := decide_eq_false h3
  have hd3b : decide (room ≤ len) = false := decide_eq_false (by omega)
  have hd3c : ¬ room ≤ len := by omega
  by_cases h4 : nx > 4611686018427387904
  · have hd4 : decide (nx > 4611686018427387904) = true := decide_eq_true h4
    go_enter Try.func24, Try.ntmps24
    go_wp2
    go_quiet (fail)
    go_wp2
    go_ret
    exact ⟨ret_int (by rw [HE.out, if_pos (.inr h4)]), below_drewN (Below.refl _ _) _⟩
  have hd4 : decide (nx > 4611686018427387904) = false := decide_eq_false h4
  have e2 : ¬ (room ≤ Os.length ∨ 4611686018427387904 < nx) := by
    have := HL.out
    omega
  rw [if_neg e2] at HE
  clear e2
  have HF : Hid (∀ d, Sto (w.drewN d) s g pb m n room nx t B Os) := hid (fun d => H.out.later (below_drewN (Below.refl _ _) d))
  obtain ⟨fr, hfr⟩ : ∃ fr, fr = n - usedN Os := ⟨_, rfl⟩
  rw [← hfr] at HE
  have HFR := hid hfr
  clear hfr
  by_cases h5 : (fr : Int) < ((needN k : Nat) : Int)
  · have hd5 : decide ((fr : Int) < ((needN k : Nat) : Int)) = true := decide_eq_true h5
    go_enter Try.func24, Try.ntmps24
    go_wp2
    go_quiet (fail)
    go_wp2_with (first
      | (go_at_call 26; refine (need_any k _ hk).mono ?_; rintro e w2 ⟨rfl, hw⟩; obtain rfl := hw.symm)
      | (go_at_call 9; refine (sfree_any s g pb m n room nx t B Os _ (HF.out _)).mono ?_; rintro e w1 ⟨rfl, hb⟩; rw [← HFR.out]; have HB := hid hb; clear hb))
    go_ret
    exact ⟨ret_int (by rw [HE.out, if_pos (by omega)]), below_call (below_drewN (Below.refl _ _) nq) HB.out⟩
  · have hd5 : decide ((fr : Int) < ((needN k : Nat) : Int)) = false := decide_eq_false h5
    go_enter Try.func24, Try.ntmps24
    go_wp2
    go_quiet (fail)
    go_wp2_with (first
      | (go_at_call 26; refine (need_any k _ hk).mono ?_; rintro e w2 ⟨rfl, hw⟩; obtain rfl := hw.symm)
      | (go_at_call 9; refine (sfree_any s g pb m n room nx t B Os _ (HF.out _)).mono ?_; rintro e w1 ⟨rfl, hb⟩; rw [← HFR.out]; have HB := hid hb; clear hb))
    go_ret
    exact ⟨ret_int (by rw [HE.out, if_neg (by omega)]), below_call (below_drewN (Below.refl _ _) nq) HB.out⟩
end Go.Proofs.Ytejkbeeffllpfaa
