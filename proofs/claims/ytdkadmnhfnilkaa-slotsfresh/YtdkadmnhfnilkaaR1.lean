import Derived.Test.YtdkadmnhfnilkaaD1
namespace Go.Proofs.Ytdkadmnhfnilkaa
open Go.RowKit
set_option linter.unusedVariables false

/-- What is read, cell by cell. -/
structure Cr (w : World) (k : Nat) (b : Option Addr) (m c : Nat) (M : List Value) : Prop where
  len : M.length = m * k
  none_ : b = none → m = 0 ∧ c = 0
  cells : ∀ x, b = some x → ∀ j u, M[j]? = some u → w.cell? (x.add j) = some u
  one : ∀ u ∈ M, u.oneCell' = true
theorem append_k (t e : TypeId) (z : Value) (k by_ : Nat) (ht : Try.prog.underlying t = some (.slice e)) (hinf : (Try.prog.info? e).map (fun i => (i.zero, i.size, i.bytes)) = some (some z, k, by_)) (hzs : z.cells.size = k) (hk : 0 < k) (hby : 0 < by_)
    {w : World} {base : Nat} {a : Option Addr} {n cap : Nat} {L : List Value} {b : Option Addr} {m c : Nat} {M : List Value} (h : w.ownsRow base e k (.slice a n cap) n L) (r : Cr w k b m c M) (hb : base ≤ w.heap.size) (hr : (n + m) * by_ ≤ 140737488355328) :
    ∃ a' cap' w', (Builtin.append_ #[t, t] t #[.slice a n cap, .slice b m c]).run Try.prog w = .ok (.slice a' (n + m) cap') w' ∧ w'.ownsRow base e k (.slice a' (n + m) cap') (n + m) (L ++ M) ∧ Gr a a' w w' := by
  obtain ⟨i, hi, hz0, hz1, hz2⟩ := info_parts hinf
  have hnm : n + m ≤ 140737488355328 := Nat.le_trans (Nat.le_mul_of_pos_right _ hby) hr
  cases b with
  | none =>
    obtain ⟨rfl, rfl⟩ := r.none_ rfl
    have hM : M = [] := List.eq_nil_of_length_eq_zero (by have := r.len; omega)
    subst hM
    have hr := run_append_owned_none (P := Try.prog) (w := w) base t t e i k ht hi _ n _ h
    exact ⟨a, cap, w, hr, by simpa using h, Gr.refl _ _⟩
  | some x =>
    obtain ⟨v', w', hr, h2, h3, _, h5⟩ := run_append_own_at (P := Try.prog) w base t t e i _ k by_ ht hi hz0 hz1 hz2 hzs hk _ n _ h x m c M r.len (r.cells x rfl) r.one (by unfold maxLen; omega) hr hb
    obtain ⟨a', cap', rfl⟩ : ∃ a' cap', v' = .slice a' (n + m) cap' := by
      rcases h2.2 with ⟨h, h'⟩ | ⟨g', cap', _, h, _⟩
      · exact ⟨.none, 0, by rw [h, h']⟩
      · exact ⟨_, cap', h⟩
    refine ⟨a', cap', w', hr, h2, ⟨h3.os, h3.tape, h3.output, h3.size, fun j hj hn => h3.block j hj (fun e => hn (Blk.of.1 e.symm))⟩, fun j hj => ?_⟩
    rcases h5 with h5 | h5
    · rw [Blk.of.2 hj] at h5
      exact .inl (Blk.of.1 h5.symm)
    · rw [Blk.of.2 hj] at h5
      right
      simp at h5
      omega
/-- Pairs of the document's table. -/
def encP (y : Cp × Int) : List Value := [.int .i64 y.1.1, .int .u64 (y.1.2.1 : Int), .int .u64 (y.1.2.2 : Int), .int .i64 y.2]
theorem encP_len (y : Cp × Int) : (encP y).length = 4 := rfl
theorem encP_one (y : Cp × Int) : ∀ v ∈ encP y, v.oneCell' = true := by
  intro v hv
  simp [encP] at hv
  rcases hv with rfl | rfl | rfl | rfl <;> rfl
def prs (E : List (Cp × Int)) : List Value := E.flatMap encP
theorem prs_length (E : List (Cp × Int)) : (prs E).length = E.length * 4 := cls_length encP_len E
theorem prs_append (E F : List (Cp × Int)) : prs (E ++ F) = prs E ++ prs F := by simp [prs]
theorem prs_one (E : List (Cp × Int)) : ∀ u ∈ prs E, u.oneCell' = true := cls_one encP_one E
theorem caps_one (K : List Cp) : ∀ u ∈ caps K, u.oneCell' = true := cls_one encC_one K
theorem info94 : (Try.prog.info? 94).map (fun i => (i.zero, i.size, i.bytes)) = some (some (.agg #[.int .i64 0, .int .u64 0, .int .u64 0, .int .i64 0]), 4, 32) := by kernel_rfl
/-- A pair's four cells. -/
structure Pc (w : World) (b o : Nat) (y : Cp × Int) : Prop where
  c0 : w.cell? ⟨b, o, none⟩ = some (.int .i64 y.1.1)
  c1 : w.cell? ⟨b, o + 1, none⟩ = some (.int .u64 (y.1.2.1 : Int))
  c2 : w.cell? ⟨b, o + 2, none⟩ = some (.int .u64 (y.1.2.2 : Int))
  c3 : w.cell? ⟨b, o + 3, none⟩ = some (.int .i64 y.2)
theorem Pc.but {S : Nat → Prop} {w w' : World} {b o : Nat} {y : Cp × Int} (hb : But S w w') (h : Pc w b o y) (hn : ¬ S b) : Pc w' b o y := ⟨cell_but hb h.c0 hn, cell_but hb h.c1 hn, cell_but hb h.c2 hn, cell_but hb h.c3 hn⟩
theorem Pc.later {w w' : World} {b o : Nat} {y : Cp × Int} (hb : Below w.heap.size w w') (h : Pc w b o y) : Pc w' b o y := h.but (S := fun _ => False) (But.of hb) (fun h => h)
/-- A row of pairs: where its pairs lie. -/
theorem prs_at {w : World} {base : Nat} {a : Option Addr} {n cap : Nat} {E : List (Cp × Int)} (h : w.ownsRow base 94 4 (.slice a n cap) n (prs E)) {i : Nat} {y : Cp × Int} (hy : E[i]? = some y) : ∃ b, a = some ⟨b, 0, none⟩ ∧ Pc w b (i * 4) y := by
  have hl := h.1
  rw [prs_length] at hl
  have hi : i < E.length := (List.getElem?_eq_some_iff.1 hy).1
  rcases h.2 with ⟨h0, hn⟩ | ⟨g, c, cur, hv, _, hh, hc, _⟩
  · omega
  · simp only [Value.slice.injEq] at hv
    obtain ⟨rfl, _, rfl⟩ := hv
    have hcell : ∀ (c : Nat) (u : Value), c < 4 → (encP y)[c]? = some u → w.cell? ⟨g, i * 4 + c, none⟩ = some u := by
      intro c u hc hu
      have := h.cells (g := g) rfl (i * 4 + c) u (by rw [show (prs E)[i * 4 + c]? = (encP y)[c]? from cls_get encP_len E i c y hy hc]; exact hu)
      rw [addr_add0] at this
      exact this
    exact ⟨g, rfl, hcell 0 _ (by omega) rfl, hcell 1 _ (by omega) rfl, hcell 2 _ (by omega) rfl, hcell 3 _ (by omega) rfl⟩
/-- The document's table. -/
structure Rf (w : World) (g mo : Nat) (a : Option Addr) (cap : Nat) (E : List (Cp × Int)) : Prop where
  c0 : w.cell? ⟨g, 0, none⟩ = some (.int .i64 (mo : Int))
  c1 : Lies w ⟨g, 1, none⟩ (.slice a E.length cap)
  own : w.ownsRow 0 94 4 (.slice a E.length cap) E.length (prs E)
  ne : ∀ k, Blk a k → k ≠ g
  small : E.length ≤ 512
  ok : ∀ c, c ∈ E.map Prod.fst → c.2.1 < B64 ∧ c.2.2 < B64
theorem Rf.lt {w : World} {g mo : Nat} {a : Option Addr} {cap : Nat} {E : List (Cp × Int)} (h : Rf w g mo a cap E) : g < w.heap.size := World.block_lt_of_cell? _ _ h.c0
theorem Rf.blt {w : World} {g mo : Nat} {a : Option Addr} {cap : Nat} {E : List (Cp × Int)} (h : Rf w g mo a cap E) : ∀ k, Blk a k → k < w.heap.size := fun k hk => (own_block h.own k (Blk.of.2 hk)).2
theorem Rf.but {S : Nat → Prop} {w w' : World} {g mo : Nat} {a : Option Addr} {cap : Nat} {E : List (Cp × Int)} (hb : But S w w') (h : Rf w g mo a cap E) (h1 : ¬ S g) (h2 : ∀ k, Blk a k → ¬ S k) : Rf w' g mo a cap E :=
  ⟨cell_but hb h.c0 h1, h.c1.but hb h1, own_but hb h.own (fun k hk => h2 k (Blk.of.1 hk)), h.ne, h.small, h.ok⟩
theorem Rf.later {w w' : World} {g mo : Nat} {a : Option Addr} {cap : Nat} {E : List (Cp × Int)} (hb : Below w.heap.size w w') (h : Rf w g mo a cap E) : Rf w' g mo a cap E := h.but (S := fun _ => False) (But.of hb) (fun h => h) (fun _ _ h => h)
theorem Rf.alloc {w : World} {g mo : Nat} {a : Option Addr} {cap : Nat} {E : List (Cp × Int)} (h : Rf w g mo a cap E) (o : Obj) : Rf (w.alloc o) g mo a cap E := h.later (below1 _ _)
def AtRel (w : World) (E : List (Cp × Int)) (o : Int) (hi lo : Nat) (t : Value) (w' : World) : Prop :=
  ∃ i : Nat, i ≤ E.length ∧ t = .int .i64 (i : Int) ∧ (∀ j y, j < i → E[j]? = some y → y.1 ≠ (o, hi, lo)) ∧ Below w.heap.size w w' ∧ Bx w' w.heap.size o hi lo
set_option maxRecDepth 100000 in
set_option maxHeartbeats 1000000 in
theorem rat_any {w : World} {g mo : Nat} {a : Option Addr} {cap : Nat} {E : List (Cp × Int)} (h : Rf w g mo a cap E) (o : Int) (hi lo : Nat) :
    Calls Try.prog 53 #[.pointer (some ⟨g, 0, none⟩), .agg #[.int .i64 o, .int .u64 (hi : Int), .int .u64 (lo : Int)]] w fun e w' => ((∃ (i : Nat) (v : Int), E[i]? = some ((o, hi, lo), v) ∧ e = .returned (.int .i64 (i : Int))) ∨ ((o, hi, lo) ∉ E.map Prod.fst ∧ e = .returned (.int .i64 (-1)))) ∧ Below w.heap.size w w' := by
  have HH := hid h
  have hsm := h.small
  clear h
  go_enter Try.func53, Try.ntmps53
  go_wp2
  go_loopw [5] (AtRel w E o hi lo) (fun t _ => E.length - (intOf t).toNat)
  case atStart => exact ⟨0, Nat.zero_le _, rfl, fun j y hj => absurd hj (Nat.not_lt_zero _), below1 _ _, Bx.new _ _ _ _⟩
  case round =>
    obtain ⟨i, hi_, rfl, hno, hB, X⟩ := hrel
    have hR := HH.out.later hB
    have x1 := hR.c1.1
    have HNo := hid hno
    clear hno
    by_cases hlt : i < E.length
    · obtain ⟨y, hy⟩ : ∃ y, E[i]? = some y := ⟨_, List.getElem?_eq_getElem hlt⟩
      obtain ⟨b, rfl, hP⟩ := prs_at hR.own hy
      obtain ⟨c0, c1, c2⟩ := (⟨hP.c0, hP.c1, hP.c2⟩ : _ ∧ _ ∧ _)
      obtain ⟨b0, b1, b2⟩ := (⟨X.c0, X.c1, X.c2⟩ : _ ∧ _ ∧ _)
      have HY := hid hy
      clear hy hP hR
      by_cases hc : y.1 = (o, hi, lo)
      · have hd1 : cEq y.1.1 (y.1.2.1 : Int) (y.1.2.2 : Int) o (hi : Int) (lo : Int) = true := by rw [hc]; simp [cEq]
        have heq := fun W => eqlC y.1.1 (y.1.2.1 : Int) (y.1.2.2 : Int) o (hi : Int) (lo : Int) W
        simp only [hd1] at heq
        have HC := hid hc
        clear hc
        go_upto_region 4 with fail
        go_quiet (fail)
        go_wp2
        go_ret
        exact ⟨.inl ⟨i, y.2, by rw [HY.out, ← HC.out], rfl⟩, below_drewN hB _⟩
      · have hd1 : cEq y.1.1 (y.1.2.1 : Int) (y.1.2.2 : Int) o (hi : Int) (lo : Int) = false := by
          refine decide_eq_false fun hq => hc ?_
          obtain ⟨q1, q2, q3⟩ := hq
          exact Prod.ext q1 (Prod.ext (Int.ofNat.inj q2) (Int.ofNat.inj q3))
        have heq := fun W => eqlC y.1.1 (y.1.2.1 : Int) (y.1.2.2 : Int) o (hi : Int) (lo : Int) W
        simp only [hd1] at heq
        have HC := hid hc
        clear hc
        go_upto_region 4 with fail
        go_quiet (fail)
        go_wp2
        refine ⟨⟨i + 1, by omega, by go_num, fun j z hj hz => ?_, below_drewN hB _, X.later (below_drewN (Below.refl _ _) _)⟩, by simp [intOf]; omega⟩
        rcases Nat.lt_or_ge j i with h3 | h3
        · exact HNo.out j z h3 hz
        · obtain rfl : j = i := by omega
          rw [HY.out] at hz
          cases hz
          exact HC.out
    · obtain rfl : i = E.length := by omega
      clear hR
      go_wp2
      go_ret
      refine ⟨.inr ⟨fun hc => ?_, rfl⟩, hB⟩
      obtain ⟨y, hy, he⟩ := List.mem_map.1 hc
      obtain ⟨j, hj⟩ := List.getElem?_of_mem hy
      exact HNo.out j y (List.getElem?_eq_some_iff.1 hj).1 hj he
end Go.Proofs.Ytdkadmnhfnilkaa
