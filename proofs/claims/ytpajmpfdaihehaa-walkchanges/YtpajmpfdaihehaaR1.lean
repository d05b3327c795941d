import Derived.Test.YtpajmpfdaihehaaS1
namespace Go.Proofs.Ytpajmpfdaihehaa
open Go.RowKit
set_option linter.unusedVariables false

/-- Rows whose elements take k cells each. -/
theorem cls_length {α : Type} {enc : α → List Value} {k : Nat} (hk : ∀ x, (enc x).length = k) (K : List α) : (K.flatMap enc).length = K.length * k := by
  induction K with
  | nil => simp
  | cons a r ih => rw [List.flatMap_cons, List.length_append, hk, ih, List.length_cons, Nat.add_mul, Nat.one_mul, Nat.add_comm]
theorem cls_get {α : Type} {enc : α → List Value} {k : Nat} (hk : ∀ x, (enc x).length = k) (K : List α) (i c : Nat) (x : α) (hi : K[i]? = some x) (hc : c < k) : (K.flatMap enc)[i * k + c]? = (enc x)[c]? := by
  induction K generalizing i with
  | nil => cases hi
  | cons a r ih =>
    rw [List.flatMap_cons]
    cases i with
    | zero =>
      simp only [List.getElem?_cons_zero, Option.some.injEq] at hi
      subst hi
      rw [Nat.zero_mul, Nat.zero_add, List.getElem?_append_left (by rw [hk]; exact hc)]
    | succ i =>
      simp only [List.getElem?_cons_succ] at hi
      have e : (i + 1) * k + c = (enc a).length + (i * k + c) := by rw [hk, Nat.add_mul, Nat.one_mul]; omega
      rw [e, List.getElem?_append_right (by omega), Nat.add_sub_cancel_left]
      exact ih i hi
theorem cls_one {α : Type} {enc : α → List Value} (h1 : ∀ x, ∀ v ∈ enc x, v.oneCell' = true) (K : List α) : ∀ u ∈ K.flatMap enc, u.oneCell' = true := by
  intro u hu
  obtain ⟨x, _, h⟩ := List.mem_flatMap.1 hu
  exact h1 x u h
/-- What is read, cell by cell. -/
structure Cr (w : World) (k : Nat) (b : Option Addr) (m c : Nat) (M : List Value) : Prop where
  len : M.length = m * k
  none_ : b = none → m = 0 ∧ c = 0
  cells : ∀ x, b = some x → ∀ j u, M[j]? = some u → w.cell? (x.add j) = some u
  one : ∀ u ∈ M, u.oneCell' = true
theorem append_k (t e : TypeId) (z : Value) (k by_ : Nat) (ht : Try.prog.underlying t = some (.slice e)) (hinf : (Try.prog.info? e).map (fun i => (i.zero, i.size, i.bytes)) = some (some z, k, by_)) (hzs : z.cells.size = k) (hk : 0 < k) (hby : 0 < by_)
    {w : World} {base : Nat} {a : Option Addr} {n cap : Nat} {L : List Value} {b : Option Addr} {m c : Nat} {M : List Value} (h : w.ownsRow base e k (.slice a n cap) n L) (r : Cr w k b m c M) (hb : base ≤ w.heap.size) (hr : (n + m) * by_ ≤ 140737488355328) :
    ∃ a' cap' w', (Builtin.append_ #[t, t] t #[.slice a n cap, .slice b m c]).run Try.prog w = .ok (.slice a' (n + m) cap') w' ∧ w'.ownsRow base e k (.slice a' (n + m) cap') (n + m) (L ++ M) ∧ Gr a a' w w' := by
  obtain ⟨i, hi, hz0, hz1, hz2⟩ := info_parts hinf
  have hnm : n + m ≤ 140737488355328 := Nat.le_trans (Nat.le_mul_of_pos_right _ hby) hr
  cases b with
  | none =>
    obtain ⟨rfl, rfl⟩ := r.none_ rfl
    have hM : M = [] := List.eq_nil_of_length_eq_zero (by have := r.len; omega)
    subst hM
    have hr := run_append_owned_none (P := Try.prog) (w := w) base t t e i k ht hi _ n _ h
    exact ⟨a, cap, w, hr, by simpa using h, Gr.refl _ _⟩
  | some x =>
    obtain ⟨v', w', hr, h2, h3, _, h5⟩ := run_append_own_at (P := Try.prog) w base t t e i _ k by_ ht hi hz0 hz1 hz2 hzs hk _ n _ h x m c M r.len (r.cells x rfl) r.one (by unfold maxLen; omega) hr hb
    obtain ⟨a', cap', rfl⟩ : ∃ a' cap', v' = .slice a' (n + m) cap' := by
      rcases h2.2 with ⟨h, h'⟩ | ⟨g', cap', _, h, _⟩
      · exact ⟨.none, 0, by rw [h, h']⟩
      · exact ⟨_, cap', h⟩
    refine ⟨a', cap', w', hr, h2, ⟨h3.os, h3.tape, h3.output, h3.size, fun j hj hn => h3.block j hj (fun e => hn (Blk.of.1 e.symm))⟩, fun j hj => ?_⟩
    rcases h5 with h5 | h5
    · rw [Blk.of.2 hj] at h5
      exact .inl (Blk.of.1 h5.symm)
    · rw [Blk.of.2 hj] at h5
      right
      simp at h5
      omega
/-- The document's nodes. -/
def encN (y : Int × Int) : List Value := [.int .i64 y.1, .int .i64 y.2]
theorem encN_len (y : Int × Int) : (encN y).length = 2 := rfl
theorem encN_one (y : Int × Int) : ∀ v ∈ encN y, v.oneCell' = true := by
  intro v hv
  simp [encN] at hv
  rcases hv with rfl | rfl <;> rfl
def nds (l : Fo) : List Value := l.flatMap encN
theorem nds_length (l : Fo) : (nds l).length = l.length * 2 := cls_length encN_len l
theorem nds_append (l k : Fo) : nds (l ++ k) = nds l ++ nds k := by simp [nds]
theorem nds_one (l : Fo) : ∀ u ∈ nds l, u.oneCell' = true := cls_one encN_one l
theorem info78 : (Try.prog.info? 78).map (fun i => (i.zero, i.size, i.bytes)) = some (some (.agg #[.int .i64 0, .int .i64 0]), 2, 16) := by kernel_rfl
/-- A node's two cells. -/
structure Pc (w : World) (b o : Nat) (y : Int × Int) : Prop where
  c0 : w.cell? ⟨b, o, none⟩ = some (.int .i64 y.1)
  c1 : w.cell? ⟨b, o + 1, none⟩ = some (.int .i64 y.2)
theorem nds_at {w : World} {base : Nat} {a : Option Addr} {n cap : Nat} {l : Fo} (h : w.ownsRow base 78 2 (.slice a n cap) n (nds l)) {i : Nat} {y : Int × Int} (hy : l[i]? = some y) : ∃ b, a = some ⟨b, 0, none⟩ ∧ Pc w b (i * 2) y := by
  have hl := h.1
  rw [nds_length] at hl
  have hi : i < l.length := (List.getElem?_eq_some_iff.1 hy).1
  rcases h.2 with ⟨h0, hn⟩ | ⟨g, c, cur, hv, _, hh, hc, _⟩
  · omega
  · simp only [Value.slice.injEq] at hv
    obtain ⟨rfl, _, rfl⟩ := hv
    have hcell : ∀ (c : Nat) (u : Value), c < 2 → (encN y)[c]? = some u → w.cell? ⟨g, i * 2 + c, none⟩ = some u := by
      intro c u hc hu
      have := h.cells (g := g) rfl (i * 2 + c) u (by rw [show (nds l)[i * 2 + c]? = (encN y)[c]? from cls_get encN_len l i c y hy hc]; exact hu)
      rw [addr_add0] at this
      exact this
    exact ⟨g, rfl, hcell 0 _ (by omega) rfl, hcell 1 _ (by omega) rfl⟩
/-- The document's forest, in memory from the block hb on. -/
structure Rf (w : World) (g hb m : Nat) (a : Option Addr) (cap : Nat) (l : Fo) : Prop where
  c0 : w.cell? ⟨g, 0, none⟩ = some (.int .i64 (m : Int))
  c1 : Lies w ⟨g, 1, none⟩ (.slice a l.length cap)
  own : w.ownsRow hb 78 2 (.slice a l.length cap) l.length (nds l)
  ne : ∀ k, Blk a k → k ≠ g
  at_ : hb ≤ g
  ok : Ok m l
  big : m ≤ 1024
def Re (w : World) (g hb m : Nat) (l : Fo) : Prop := ∃ a cap, Rf w g hb m a cap l
theorem Rf.lt {w : World} {g hb m : Nat} {a : Option Addr} {cap : Nat} {l : Fo} (h : Rf w g hb m a cap l) : g < w.heap.size := World.block_lt_of_cell? _ _ h.c0
theorem Rf.but {S : Nat → Prop} {w w' : World} {g hb m : Nat} {a : Option Addr} {cap : Nat} {l : Fo} (h0 : But S w w') (h : Rf w g hb m a cap l) (h1 : ¬ S g) (h2 : ∀ k, Blk a k → ¬ S k) : Rf w' g hb m a cap l :=
  ⟨cell_but h0 h.c0 h1, h.c1.but h0 h1, own_but h0 h.own (fun k hk => h2 k (Blk.of.1 hk)), h.ne, h.at_, h.ok, h.big⟩
theorem Rf.later {w w' : World} {g hb m : Nat} {a : Option Addr} {cap : Nat} {l : Fo} (h0 : Below w.heap.size w w') (h : Rf w g hb m a cap l) : Rf w' g hb m a cap l := h.but (S := fun _ => False) (But.of h0) (fun h => h) (fun _ _ h => h)
theorem Re.later {w w' : World} {g hb m : Nat} {l : Fo} (h0 : Below w.heap.size w w') (h : Re w g hb m l) : Re w' g hb m l := by
  obtain ⟨a, cap, h⟩ := h
  exact ⟨a, cap, h.later h0⟩
theorem Re.but {S : Nat → Prop} {w w' : World} {g hb m : Nat} {l : Fo} (h0 : But S w w') (h : Re w g hb m l) (h1 : ∀ k, S k → k < hb) : Re w' g hb m l := by
  obtain ⟨a, cap, h⟩ := h
  exact ⟨a, cap, h.but h0 (fun hs => by have := h1 _ hs; have := h.at_; omega) (fun k hk hs => by have := h1 _ hs; have := (own_block h.own k (Blk.of.2 hk)).1; omega)⟩
/-- A list's memory of another place. -/
theorem Re.apart {w w' : World} {g hb m : Nat} {l : Fo} {s : Nat} (h0 : But (fun k => s ≤ k) w w') (h : Re w g hb m l) (hs : w.heap.size ≤ s) : Re w' g hb m l := by
  obtain ⟨a, cap, h⟩ := h
  exact ⟨a, cap, h.but h0 (fun h1 => by have := h.lt; omega) (fun k hk h1 => by have := (own_block h.own k (Blk.of.2 hk)).2; omega)⟩
def AtRel (w : World) (l : Fo) (n : Int) (t : Value) (w' : World) : Prop :=
  ∃ i : Nat, i ≤ l.length ∧ t = .int .i64 (i : Int) ∧ (∀ (j : Nat) (y : Int × Int), j < i → l[j]? = some y → y.1 ≠ n) ∧ w' = w
set_option maxRecDepth 100000 in
set_option maxHeartbeats 1000000 in
theorem rat_any {w : World} {g hb m : Nat} {l : Fo} (h : Re w g hb m l) (n : Int) :
    Calls Try.prog 48 #[.pointer (some ⟨g, 0, none⟩), .int .i64 n] w fun e w' => ((∃ (i : Nat) (p : Int), l[i]? = some (n, p) ∧ e = .returned (.int .i64 (i : Int))) ∨ (n ∉ nums l ∧ e = .returned (.int .i64 (-1)))) ∧ w' = w := by
  obtain ⟨a, cap, h⟩ := h
  have HH := hid h
  have hl := h.ok.len
  have hb := h.big
  have x1 := h.c1.1
  clear h
  go_enter Try.func48, Try.ntmps48
  go_wp2
  go_loopw [5] (AtRel w l n) (fun t _ => l.length - (intOf t).toNat)
  case atStart => exact ⟨0, Nat.zero_le _, rfl, fun j y hj => absurd hj (Nat.not_lt_zero _), rfl⟩
  case round =>
    obtain ⟨i, hi, rfl, hno, rfl⟩ := hrel
    have HNo := hid hno
    clear hno
    by_cases hlt : i < l.length
    · obtain ⟨y, hy⟩ : ∃ y, l[i]? = some y := ⟨_, List.getElem?_eq_getElem hlt⟩
      obtain ⟨b, rfl, hP⟩ := nds_at HH.out.own hy
      have c0 := hP.c0
      have HY := hid hy
      clear hy hP
      by_cases hc : y.1 = n
      · have HC := hid hc
        have hd : (y.1 == n) = true := by simpa using hc
        clear hc
        go_wp2
        go_ret
        exact ⟨.inl ⟨i, y.2, by rw [HY.out, ← HC.out], rfl⟩, rfl⟩
      · have HC := hid hc
        have hd : (y.1 == n) = false := by simpa using hc
        clear hc
        go_wp2
        refine ⟨⟨i + 1, by omega, by go_num, fun j z hj hz => ?_, rfl⟩, by simp [intOf]; omega⟩
        rcases Nat.lt_or_ge j i with h3 | h3
        · exact HNo.out j z h3 hz
        · obtain rfl : j = i := by omega
          rw [HY.out] at hz
          cases hz
          exact HC.out
    · obtain rfl : i = l.length := by omega
      go_wp2
      go_ret
      refine ⟨.inr ⟨fun hc => ?_, rfl⟩, rfl⟩
      obtain ⟨p, hp⟩ := mem_nums.1 hc
      obtain ⟨j, hj⟩ := List.getElem?_of_mem hp
      exact HNo.out j _ (List.getElem?_eq_some_iff.1 hj).1 hj rfl
set_option maxRecDepth 100000 in
set_option maxHeartbeats 1000000 in
theorem rhas_any {w : World} {g hb m : Nat} {l : Fo} (h : Re w g hb m l) (n : Int) :
    Calls Try.prog 50 #[.pointer (some ⟨g, 0, none⟩), .int .i64 n] w fun e w' => e = .returned (.bool (decide (n ∈ nums l))) ∧ w' = w := by
  have hr := hid (rat_any h n)
  clear h
  by_cases hn : n ∈ nums l
  · rw [decide_eq_true hn]
    have HN := hid hn
    clear hn
    go_enter Try.func50, Try.ntmps50
    go_wp2_with (first | (go_at_call 48; refine hr.out.mono ?_; rintro e w1 ⟨(⟨i, p, _, rfl⟩ | ⟨h, _⟩), rfl⟩; rotate_left; exact absurd HN.out h))
    go_ret
    exact ⟨ret_bool (by simp), rfl⟩
  · rw [decide_eq_false hn]
    have HN := hid hn
    clear hn
    go_enter Try.func50, Try.ntmps50
    go_wp2_with (first | (go_at_call 48; refine hr.out.mono ?_; rintro e w1 ⟨(⟨i, p, h, rfl⟩ | ⟨_, rfl⟩), rfl⟩; exact absurd (mem_nums.2 ⟨p, List.mem_of_getElem? h⟩) HN.out))
    go_ret
    exact ⟨rfl, rfl⟩
set_option maxRecDepth 100000 in
set_option maxHeartbeats 1000000 in
theorem rparent_any {w : World} {g hb m : Nat} {l : Fo} (h : Re w g hb m l) (n : Int) :
    Calls Try.prog 27 #[.pointer (some ⟨g, 0, none⟩), .int .i64 n] w fun e w' => e = .returned (parV l n) ∧ w' = w := by
  have hr := rat_any h n
  obtain ⟨a, cap, h⟩ := h
  have hl := h.ok.len
  have hb := h.big
  by_cases hn : n ∈ nums l
  · obtain ⟨p, hp⟩ := mem_nums.1 hn
    rw [par_in h.ok hp]
    obtain ⟨i, hi⟩ := List.getElem?_of_mem hp
    have hil := (List.getElem?_eq_some_iff.1 hi).1
    obtain ⟨b, rfl, hP⟩ := nds_at h.own hi
    have c1 := hP.c1
    have x1 := h.c1.1
    have hr2 : Calls Try.prog 48 #[.pointer (some ⟨g, 0, none⟩), .int .i64 n] w fun e w' => e = .returned (.int .i64 (i : Int)) ∧ w' = w := by
      refine hr.mono ?_
      rintro e w1 ⟨(⟨i2, p2, h2, rfl⟩ | ⟨h2, _⟩), rfl⟩
      · have e1 : i2 = i := by
          have hA : (nums l)[i2]? = some n := by simp [nums, h2]
          have hB : (nums l)[i]? = some n := by simp [nums, hi]
          exact nd_idx h.ok.nodup hA hB
        rw [e1]
        exact ⟨rfl, rfl⟩
      · exact absurd hn h2
    clear h hr hP hi hn hp
    simp only at c1
    go_enter Try.func27, Try.ntmps27
    go_wp2_with (first | (go_at_call 48; refine hr2.mono ?_; rintro e w1 ⟨rfl, rfl⟩))
    exact bodyPost_ret (v := .tuple #[.int .i64 p, .bool true]) (by simp [results, Try.results27, go_sem]) rfl ⟨rfl, rfl⟩
  · rw [par_out hn]
    have hr2 : Calls Try.prog 48 #[.pointer (some ⟨g, 0, none⟩), .int .i64 n] w fun e w' => e = .returned (.int .i64 (-1)) ∧ w' = w := by
      refine hr.mono ?_
      rintro e w1 ⟨(⟨i2, p2, h2, rfl⟩ | ⟨h2, rfl⟩), rfl⟩
      · exact absurd (mem_nums.2 ⟨p2, List.mem_of_getElem? h2⟩) hn
      · exact ⟨rfl, rfl⟩
    clear h hr hn
    go_enter Try.func27, Try.ntmps27
    go_wp2_with (first | (go_at_call 48; refine hr2.mono ?_; rintro e w1 ⟨rfl, rfl⟩))
    exact bodyPost_ret (v := .tuple #[.int .i64 0, .bool false]) (by simp [results, Try.results27, go_sem]) rfl ⟨rfl, rfl⟩
end Go.Proofs.Ytpajmpfdaihehaa
