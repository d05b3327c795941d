import Derived.Test.YthlojdclncikiaaR3
import Derived.Test.YthlojdclncikiaaB5
namespace Go.Proofs.Ythlojdclncikiaa
open Go.RowKit
set_option linter.unusedVariables false
set_option linter.unusedSimpArgs false
variable {w w' : World} {base r s n k : Nat} {pa : Option Addr} {cap : Nat} {L : List Pu} {E : Nat} {hi mi : Int}

theorem wp_append_known {P : Program} {w : World} {o : Oper} {a : Act} {K : Act → World → Prop} {Q : Exit → Act → World → Prop} (s x : Operand) (t : TypeId)
    (ho : o.op = .call { callee := .builtin .append, args := #[s, x], argTypes := #[t, t] }) (vs vx : Value) (hs : a.eval s = vs) (hx : a.eval x = vx) (v' : Value) (w' : World)
    (hr : (Builtin.append_ #[t, t] o.type #[vs, vx]).run P w = .ok v' w') (h : K (a.put o.dst v') w') : o.wp P a w K Q := by
  unfold Oper.wp execOp
  simp only [ho, resolve, invoke, builtin, Sem.run_bind, Sem.run_pure, Result.andThen_ok, List.map_toArray, List.map_cons, List.map_nil, hs, hx, hr]
  exact h
theorem nat_beq (a b : Nat) : ((a : Int) == (b : Int)) = decide (a = b) := by
  by_cases h : a = b
  · subst h; simp
  · rw [decide_eq_false h]; simp; omega
set_option maxRecDepth 100000 in
theorem rput_none (h : Rc w base r s n k pa cap L E hi mi) (c : Cp) (m : Int) (hs : s = 0) :
    Calls Try.prog 17 #[.pointer (some ⟨r, 0, none⟩), .agg #[.int .i64 c.1, .int .u64 (c.2.1 : Int), .int .u64 (c.2.2 : Int)], .int .i64 m] w fun e w' => e = .returned (.tuple #[]) ∧ Below w.heap.size w w' := by
  subst hs
  have c0 := (h.later (below1 w (Obj.cells #[.int .i64 c.1, .int .u64 (c.2.1 : Int), .int .u64 (c.2.2 : Int)] 34))).c0
  clear h
  go_enter Try.func17, Try.ntmps17
  go_wp2
  exact bodyPost_ret (by simp [results, Try.results17, go_sem]) rfl ⟨rfl, below1 _ _⟩
/-- How many of the list are of the set ro. -/
def cnt (k s : Nat) (ro : Nat) (L : List Pu) : Nat := L.countP (fun x => rowN k s x.1 = ro)
theorem cnt_next {k s ro i : Nat} {x : Pu} (hx : L[i]? = some x) : cnt k s ro (L.take (i + 1)) = cnt k s ro (L.take i) + if rowN k s x.1 = ro then 1 else 0 := by
  unfold cnt
  rw [List.take_add_one, hx, Option.toList_some, List.countP_append, List.countP_singleton]
  simp
theorem cnt_le {k s ro : Nat} (L : List Pu) : cnt k s ro L ≤ L.length := List.countP_le_length
/-- The first of them, among the first i. -/
def Fi (k s ro : Nat) (L : List Pu) (i : Nat) (v : Int) : Prop := (v = -1 ∧ ∀ j x, j < i → L[j]? = some x → rowN k s x.1 ≠ ro) ∨ ∃ (j : Nat) (x : Pu), v = (j : Int) ∧ j < i ∧ L[j]? = some x ∧ rowN k s x.1 = ro ∧ ∀ j' y, j' < j → L[j']? = some y → rowN k s y.1 ≠ ro
/-- Where c is, among the first i. -/
def Kn (c : Cp) (L : List Pu) (i : Nat) (v : Int) : Prop := (v = -1 ∧ ∀ j x, j < i → L[j]? = some x → x.1 ≠ c) ∨ ∃ (j : Nat) (x : Pu), v = (j : Int) ∧ j < i ∧ L[j]? = some x ∧ x.1 = c
theorem Fi.no {k s ro i : Nat} {v : Int} {x : Pu} (h : Fi k s ro L i v) (hx : L[i]? = some x) (hr : rowN k s x.1 ≠ ro) : Fi k s ro L (i + 1) v := by
  rcases h with ⟨e, h⟩ | ⟨j, y, e, h1, h2⟩
  · refine .inl ⟨e, fun j y hj hy => ?_⟩
    rcases Nat.lt_or_ge j i with h3 | h3
    · exact h j y h3 hy
    · obtain rfl : j = i := by omega
      rw [hx] at hy; cases hy; exact hr
  · exact .inr ⟨j, y, e, by omega, h2⟩
theorem Fi.yes {k s ro i : Nat} {x : Pu} (h : Fi k s ro L i (-1)) (hx : L[i]? = some x) (hr : rowN k s x.1 = ro) : Fi k s ro L (i + 1) (i : Int) := by
  rcases h with ⟨_, h⟩ | ⟨j, y, e, h1, h2⟩
  · exact .inr ⟨i, x, rfl, by omega, hx, hr, fun j y hj hy => h j y hj hy⟩
  · omega
theorem Fi.more {k s ro i : Nat} {v : Int} (h : Fi k s ro L i v) (hv : 0 ≤ v) : Fi k s ro L (i + 1) v := by
  rcases h with ⟨e, h⟩ | ⟨j, y, e, h1, h2⟩
  · omega
  · exact .inr ⟨j, y, e, by omega, h2⟩
theorem Fi.cases {k s ro i : Nat} {v : Int} (h : Fi k s ro L i v) : v = -1 ∨ 0 ≤ v := by
  rcases h with ⟨e, h⟩ | ⟨j, y, e, h1, h2⟩
  · exact .inl e
  · exact .inr (by omega)
theorem Kn.no {c : Cp} {i : Nat} {v : Int} {x : Pu} (h : Kn c L i v) (hx : L[i]? = some x) (hc : x.1 ≠ c) : Kn c L (i + 1) v := by
  rcases h with ⟨e, h⟩ | ⟨j, y, e, h1, h2⟩
  · refine .inl ⟨e, fun j y hj hy => ?_⟩
    rcases Nat.lt_or_ge j i with h3 | h3
    · exact h j y h3 hy
    · obtain rfl : j = i := by omega
      rw [hx] at hy; cases hy; exact hc
  · exact .inr ⟨j, y, e, by omega, h2⟩
theorem Kn.yes {c : Cp} {i : Nat} {x : Pu} (hx : L[i]? = some x) (hc : x.1 = c) : Kn c L (i + 1) (i : Int) := .inr ⟨i, x, rfl, by omega, hx, hc⟩
/-- What is left of the list ahead of the put. -/
def Pre (n k s : Nat) (L : List Pu) (c : Cp) (M : List Pu) : Prop :=
  (∃ (j : Nat) (x : Pu), L[j]? = some x ∧ x.1 = c ∧ M = L.eraseIdx j) ∨ ((∀ (j : Nat) (x : Pu), L[j]? = some x → x.1 ≠ c) ∧
    ((n ≤ cnt k s (rowN k s c) L ∧ ∃ (j : Nat) (x : Pu), L[j]? = some x ∧ rowN k s x.1 = rowN k s c ∧ (∀ (j' : Nat) (y : Pu), j' < j → L[j']? = some y → rowN k s y.1 ≠ rowN k s c) ∧ M = L.eraseIdx j) ∨ (cnt k s (rowN k s c) L < n ∧ M = L)))
theorem Pre.len {c : Cp} {M : List Pu} (h : Pre n k s L c M) : M.length ≤ L.length := by
  rcases h with ⟨j, x, _, _, rfl⟩ | ⟨_, ⟨_, j, x, _, _, _, rfl⟩ | ⟨_, rfl⟩⟩
  · exact List.length_eraseIdx_le _ _
  · exact List.length_eraseIdx_le _ _
  · exact Nat.le_refl _
def PfRel (W : World) (k s : Nat) (L : List Pu) (c : Cp) (ro : Nat) (v6 v7 v8 v9 : Value) (w : World) : Prop :=
  ∃ (i : Nat) (fi kn : Int), i ≤ L.length ∧ v6 = .int .i64 (cnt k s ro (L.take i) : Int) ∧ v7 = .int .i64 fi ∧ v8 = .int .i64 kn ∧ v9 = .int .i64 (i : Int) ∧ Fi k s ro L i fi ∧ Kn c L i kn ∧ Below W.heap.size W w
set_option maxRecDepth 100000 in
set_option maxHeartbeats 4000000 in
theorem rput_ok (h : Rc w base r s n k pa cap L E hi mi) (c : Cp) (m : Int) (hc : okC c) (hK : ∀ x ∈ L, okC x.1) (hs : 0 < s) (hL : L.length ≤ 64) :
    Calls Try.prog 17 #[.pointer (some ⟨r, 0, none⟩), .agg #[.int .i64 c.1, .int .u64 (c.2.1 : Int), .int .u64 (c.2.2 : Int)], .int .i64 m] w fun x w' => x = .returned (.tuple #[]) ∧ ∃ M, Pre n k s L c M ∧ ∃ pb, (∃ c', Rc w' base r s n k pb c' (M ++ [(c, m)]) E hi mi) ∧ Wq w w' r pa pb := by
  have HB1 := hid (below1 w (Obj.cells #[.int .i64 c.1, .int .u64 (c.2.1 : Int), .int .u64 (c.2.2 : Int)] 34))
  have HH := hid (h.later HB1.out)
  have HC : Hid (∀ U : World, Below (w.alloc (Obj.cells #[.int .i64 c.1, .int .u64 (c.2.1 : Int), .int .u64 (c.2.2 : Int)] 34)).heap.size (w.alloc (Obj.cells #[.int .i64 c.1, .int .u64 (c.2.1 : Int), .int .u64 (c.2.2 : Int)] 34)) U → Cel U w.heap.size 0 c) := fun U hU => ⟨cell_later hU (by simp [go_sem]), cell_later hU (by simp [go_sem]), cell_later hU (by simp [go_sem])⟩
  have HGL := hid h.lt
  have HSZ : Hid (w.heap.size < (w.alloc (Obj.cells #[.int .i64 c.1, .int .u64 (c.2.1 : Int), .int .u64 (c.2.2 : Int)] 34)).heap.size) := by simp [Hid]
  have HBL : Hid (∀ j, Blk pa j → j < w.heap.size) := fun j hj => (h.own.blk j hj).2
  have x0 := HH.out.c0
  have hz0 : ((s : Int) == 0) = false := by simp; omega
  clear h
  go_enter Try.func17, Try.ntmps17
  go_upto_region 2 with fail
  generalize w.alloc (Obj.cells #[.int .i64 c.1, .int .u64 (c.2.1 : Int), .int .u64 (c.2.2 : Int)] 34) = w1 at HB1 HC HH x0 HSZ
  clear x0 hz0
  obtain ⟨ro, hro⟩ : ∃ ro, ro = rowN k s c := ⟨_, rfl⟩
  have HSc : Hid (∀ U : World, Below w1.heap.size w1 U → Calls Try.prog 24 #[.pointer (some ⟨r, 0, none⟩), .agg #[.int .i64 c.1, .int .u64 (c.2.1 : Int), .int .u64 (c.2.2 : Int)]] U fun e w' => e = .returned (.int .u64 (ro : Int)) ∧ Below U.heap.size U w') := fun U hU => by
    rw [hro]; exact rset_any (HH.out.later hU) c hc hs
  have HSx : Hid (∀ (x : Pu) (U : World), x ∈ L → Below w1.heap.size w1 U → Calls Try.prog 24 #[.pointer (some ⟨r, 0, none⟩), .agg #[.int .i64 x.1.1, .int .u64 (x.1.2.1 : Int), .int .u64 (x.1.2.2 : Int)]] U fun e w' => e = .returned (.int .u64 (rowN k s x.1 : Int)) ∧ Below U.heap.size U w') := fun x U hx hU => rset_any (HH.out.later hU) x.1 (hK x hx) hs
  have HRO := hid hro
  clear hro hc hK hs
  go_upto_region 6 with fail
  go_loopw [6, 7, 8, 9] (PfRel w1 k s L c ro) (fun _ _ _ t _ => L.length - (intOf t).toNat)
  case atStart => exact ⟨0, -1, -1, by omega, rfl, rfl, rfl, rfl, .inl ⟨rfl, fun j x hj => absurd hj (Nat.not_lt_zero _)⟩, .inl ⟨rfl, fun j x hj => absurd hj (Nat.not_lt_zero _)⟩, Below.refl _ _⟩
  case round =>
    obtain ⟨i, fi, kn, hi_, rfl, rfl, rfl, rfl, hFi, hKn, hB⟩ := hrel
    have HFi := hid hFi
    have HKn := hid hKn
    have HB := hid hB
    have HR := hid (HH.out.later hB)
    have x6 := HR.out.cl.1
    clear hFi hKn hB
    by_cases hlt : i < L.length
    · have hd : decide ((i : Int) < (L.length : Int)) = true := decide_eq_true (by omega)
      obtain ⟨x, hx⟩ : ∃ x, L[i]? = some x := ⟨_, List.getElem?_eq_getElem hlt⟩
      obtain ⟨b, rfl, hcu⟩ := HR.out.at_ hx
      obtain ⟨u0, u1, u2, _⟩ := hcu
      obtain ⟨y0, y1, y2⟩ := HC.out _ HB.out
      simp only [Nat.zero_add] at y1 y2
      have heq := fun W => eqlCp x.1 c W
      have HX := hid hx
      have HSX := hid (fun (U : World) (hU : Below w1.heap.size w1 U) => HSx.out x U (List.mem_of_getElem? hx) hU)
      have HCN := hid (cnt_next (k := k) (s := s) (ro := ro) hx)
      have hcl := cnt_le (k := k) (s := s) (ro := ro) (L.take i)
      rw [List.length_take] at hcl
      obtain ⟨q, hq⟩ : ∃ q, q = cnt k s ro (L.take i) := ⟨_, rfl⟩
      rw [← hq] at HCN hcl ⊢
      have hq64 : q ≤ 64 := by omega
      clear hx hq hcl
      obtain ⟨xr, hxr⟩ : ∃ xr, xr = rowN k s x.1 := ⟨_, rfl⟩
      rw [← hxr] at HSX HCN
      have HXR := hid hxr
      clear hxr
      obtain ⟨kn2, hkn2⟩ : ∃ kn2 : Int, kn2 = if x.1 = c then (i : Int) else kn := ⟨_, rfl⟩
      have HKn2 : Hid (Kn c L (i + 1) kn2) := by
        rw [hkn2]
        by_cases e : x.1 = c
        · rw [if_pos e]; exact Kn.yes HX.out e
        · rw [if_neg e]; exact HKn.out.no HX.out e
      have HK2 := hid hkn2
      clear hkn2
      go_upto_region 8 with fail
      go_quiet (fail)
      have HB3 := hid (below_drewN HB.out nq)
      have HR3 := hid (HR.out.later (below_drewN (Below.refl _ _) nq))
      generalize wr.drewN nq = w3 at *
      go_upto_if 33 with fail
      go_cut [8] (fun v W => v = .int .i64 kn2 ∧ w3 = W)
      case first =>
        by_cases e : x.1 = c
        · have hd1 : decide (x.1 = c) = true := decide_eq_true e
          have hk := HK2.out
          rw [if_pos e] at hk
          rw [hd1]
          go_wp2
          go_meet
          case rel => exact ⟨by rw [hk], rfl⟩
        · have hd1 : decide (x.1 = c) = false := decide_eq_false e
          have hk := HK2.out
          rw [if_neg e] at hk
          rw [hd1]
          go_wp2
          go_meet
          case rel => exact ⟨by rw [hk], rfl⟩
      case rest =>
        obtain ⟨rfl, rfl⟩ := hcut
        obtain ⟨b0, b1, b2⟩ := HC.out _ HB3.out
        have HC4 : Hid (∀ U : World, Below w3.heap.size w3 U → (U.cell? ⟨r, 6, none⟩ = some (.slice (some ⟨b, 0, none⟩) L.length cap) ∧ U.cell? ⟨b, i * 4, none⟩ = some (.int .i64 x.1.1) ∧ U.cell? ⟨b, i * 4 + 1, none⟩ = some (.int .u64 (x.1.2.1 : Int)) ∧ U.cell? ⟨b, i * 4 + 2, none⟩ = some (.int .u64 (x.1.2.2 : Int)) ∧ U.cell? ⟨w.heap.size, 0, none⟩ = some (.int .i64 c.1) ∧ U.cell? ⟨w.heap.size, 1, none⟩ = some (.int .u64 (c.2.1 : Int)) ∧ U.cell? ⟨w.heap.size, 2, none⟩ = some (.int .u64 (c.2.2 : Int))) ∧ Below w3.heap.size w3 U) := fun U hU => by
          obtain ⟨y0, y1, y2⟩ := HC.out U (below_call HB3.out hU)
          have hR := HR3.out.later hU
          obtain ⟨b', e, hcu⟩ := hR.at_ HX.out
          cases e
          simp only [Nat.zero_add] at y1 y2
          exact ⟨⟨hR.cl.1, hcu.c0, hcu.c1, hcu.c2, y0, y1, y2⟩, hU⟩
        clear x6 u0 u1 u2 y0 y1 y2 b0 b1 b2 heq
        go_upto_region 10 with fail
        go_cut [48] (fun v W => v = .bool (decide (xr = ro)) ∧ Below w1.heap.size w1 W)
        case first =>
          refine wp_region_held_drew (S := (fun U : World => (U.cell? ⟨r, 6, none⟩ = some (.slice (some ⟨b, 0, none⟩) L.length cap) ∧ U.cell? ⟨b, i * 4, none⟩ = some (.int .i64 x.1.1) ∧ U.cell? ⟨b, i * 4 + 1, none⟩ = some (.int .u64 (x.1.2.1 : Int)) ∧ U.cell? ⟨b, i * 4 + 2, none⟩ = some (.int .u64 (x.1.2.2 : Int)) ∧ U.cell? ⟨w.heap.size, 0, none⟩ = some (.int .i64 c.1) ∧ U.cell? ⟨w.heap.size, 1, none⟩ = some (.int .u64 (c.2.1 : Int)) ∧ U.cell? ⟨w.heap.size, 2, none⟩ = some (.int .u64 (c.2.2 : Int))) ∧ Below w3.heap.size w3 U)) (by kernel_rfl) (HC4.out _ (Below.refl w3.heap.size w3).drew) (fun hHeld => ?_)
          refine wpAnyH_norm (l2 := #[false, false, false, false, false, false, false, false, false, false, false, false, false, false]) (f2 := 14) (by kernel_rfl) (by kernel_rfl) ?_
          refine wpAnyH_take (i := 0) (oi := _) (v := ?_) rfl (by kernel_rfl) (by kernel_rfl) (by kernel_rfl) (fun _ _ _ h => h) (Or.inl ⟨by rfl, ?_⟩) (by assumption) ?_
          rotate_left
          · (intro w hSw; (try dsimp only at hSw); go_simp; try with_reducible rfl)
          simp only [List.getElem_toArray, List.getElem_cons_succ, List.getElem_cons_zero, Act.put, List.setIfInBounds_toArray, List.set_cons_zero, List.set_cons_succ]
          refine wpAnyH_norm (l2 := #[true, false, false, false, false, false, false, false, false, false, false, false, false, false]) (f2 := 13) (by kernel_rfl) (by kernel_rfl) ?_
          refine wpAnyH_take (i := 1) (oi := _) (v := ?_) rfl (by kernel_rfl) (by kernel_rfl) (by kernel_rfl) (fun _ _ _ h => h) (Or.inl ⟨by rfl, ?_⟩) (by assumption) ?_
          rotate_left
          · (intro w hSw; (try dsimp only at hSw); go_simp; try with_reducible rfl)
          simp only [List.getElem_toArray, List.getElem_cons_succ, List.getElem_cons_zero, Act.put, List.setIfInBounds_toArray, List.set_cons_zero, List.set_cons_succ]
          refine wpAnyH_norm (l2 := #[true, true, false, false, false, false, false, false, false, false, false, false, false, false]) (f2 := 12) (by kernel_rfl) (by kernel_rfl) ?_
          refine wpAnyH_take (i := 2) (oi := _) (v := ?_) rfl (by kernel_rfl) (by kernel_rfl) (by kernel_rfl) (fun _ _ _ h => h) (Or.inl ⟨by rfl, ?_⟩) (by assumption) ?_
          rotate_left
          · (intro w hSw; (try dsimp only at hSw); go_simp; try with_reducible rfl)
          simp only [List.getElem_toArray, List.getElem_cons_succ, List.getElem_cons_zero, Act.put, List.setIfInBounds_toArray, List.set_cons_zero, List.set_cons_succ]
          refine wpAnyH_norm (l2 := #[true, true, true, false, false, false, false, false, false, false, false, false, false, false]) (f2 := 11) (by kernel_rfl) (by kernel_rfl) ?_
          refine wpAnyH_take (i := 3) (oi := _) (v := ?_) rfl (by kernel_rfl) (by kernel_rfl) (by kernel_rfl) (fun _ _ _ h => h) (Or.inl ⟨by rfl, ?_⟩) (by assumption) ?_
          rotate_left
          · (intro w hSw; (try dsimp only at hSw); go_simp; try with_reducible rfl)
          simp only [List.getElem_toArray, List.getElem_cons_succ, List.getElem_cons_zero, Act.put, List.setIfInBounds_toArray, List.set_cons_zero, List.set_cons_succ]
          refine wpAnyH_norm (l2 := #[true, true, true, true, false, false, false, false, false, false, false, false, false, false]) (f2 := 10) (by kernel_rfl) (by kernel_rfl) ?_
          refine wpAnyH_take (i := 4) (oi := _) (v := ?_) rfl (by kernel_rfl) (by kernel_rfl) (by kernel_rfl) (fun _ _ _ h => h) (Or.inl ⟨by rfl, ?_⟩) (by assumption) ?_
          rotate_left
          · (intro w hSw; (try dsimp only at hSw); go_simp; try with_reducible rfl)
          simp only [List.getElem_toArray, List.getElem_cons_succ, List.getElem_cons_zero, Act.put, List.setIfInBounds_toArray, List.set_cons_zero, List.set_cons_succ]
          refine wpAnyH_norm (l2 := #[true, true, true, true, true, false, false, false, false, false, false, false, false, false]) (f2 := 9) (by kernel_rfl) (by kernel_rfl) ?_
          refine wpAnyH_take (i := 5) (oi := _) (v := ?_) rfl (by kernel_rfl) (by kernel_rfl) (by kernel_rfl) (fun _ _ _ h => h) (Or.inl ⟨by rfl, ?_⟩) (by assumption) ?_
          rotate_left
          · (intro w hSw; (try dsimp only at hSw); go_simp; try with_reducible rfl)
          simp only [List.getElem_toArray, List.getElem_cons_succ, List.getElem_cons_zero, Act.put, List.setIfInBounds_toArray, List.set_cons_zero, List.set_cons_succ]
          refine wpAnyH_norm (l2 := #[true, true, true, true, true, true, false, false, false, false, false, false, false, false]) (f2 := 8) (by kernel_rfl) (by kernel_rfl) ?_
          refine wpAnyH_take (i := 6) (oi := _) (v := ?_) rfl (by kernel_rfl) (by kernel_rfl) (by kernel_rfl) (fun _ _ _ h => h) (Or.inl ⟨by rfl, ?_⟩) (by assumption) ?_
          rotate_left
          · (intro w hSw; (try dsimp only at hSw); go_simp; try with_reducible rfl)
          simp only [List.getElem_toArray, List.getElem_cons_succ, List.getElem_cons_zero, Act.put, List.setIfInBounds_toArray, List.set_cons_zero, List.set_cons_succ]
          refine wpAnyH_norm (l2 := #[true, true, true, true, true, true, true, false, false, false, false, false, false, false]) (f2 := 7) (by kernel_rfl) (by kernel_rfl) ?_
          refine wpAnyH_take (i := 7) (oi := _) (v := ?_) rfl (by kernel_rfl) (by kernel_rfl) (by kernel_rfl) (fun _ _ _ h => h) (Or.inl ⟨by rfl, ?_⟩) (by assumption) ?_
          rotate_left
          · (intro w hSw; (try dsimp only at hSw); go_simp; try with_reducible rfl)
          simp only [List.getElem_toArray, List.getElem_cons_succ, List.getElem_cons_zero, Act.put, List.setIfInBounds_toArray, List.set_cons_zero, List.set_cons_succ]
          refine wpAnyH_norm (l2 := #[true, true, true, true, true, true, true, true, false, false, false, false, false, false]) (f2 := 6) (by kernel_rfl) (by kernel_rfl) ?_
          refine wpAnyH_take (i := 8) (oi := _) (v := ?_) rfl (by kernel_rfl) (by kernel_rfl) (by kernel_rfl) (fun _ _ _ h => h) (Or.inl ⟨by rfl, ?_⟩) (by assumption) ?_
          rotate_left
          · (intro w hSw; (try dsimp only at hSw); go_simp; try with_reducible rfl)
          simp only [List.getElem_toArray, List.getElem_cons_succ, List.getElem_cons_zero, Act.put, List.setIfInBounds_toArray, List.set_cons_zero, List.set_cons_succ]
          refine wpAnyH_norm (l2 := #[true, true, true, true, true, true, true, true, true, false, false, false, false, false]) (f2 := 5) (by kernel_rfl) (by kernel_rfl) ?_
          refine wpAnyH_take (i := 10) (oi := _) (v := ?_) rfl (by kernel_rfl) (by kernel_rfl) (by kernel_rfl) (fun _ _ _ h => h) (Or.inl ⟨by rfl, ?_⟩) (by assumption) ?_
          rotate_left
          · (intro w hSw; (try dsimp only at hSw); go_simp; try with_reducible rfl)
          simp only [List.getElem_toArray, List.getElem_cons_succ, List.getElem_cons_zero, Act.put, List.setIfInBounds_toArray, List.set_cons_zero, List.set_cons_succ]
          refine wpAnyH_norm (l2 := #[true, true, true, true, true, true, true, true, true, false, true, false, false, false]) (f2 := 4) (by kernel_rfl) (by kernel_rfl) ?_
          refine wpAnyH_take (i := 11) (oi := _) (v := ?_) rfl (by kernel_rfl) (by kernel_rfl) (by kernel_rfl) (fun _ _ _ h => h) (Or.inl ⟨by rfl, ?_⟩) (by assumption) ?_
          rotate_left
          · (intro w hSw; (try dsimp only at hSw); go_simp; try with_reducible rfl)
          simp only [List.getElem_toArray, List.getElem_cons_succ, List.getElem_cons_zero, Act.put, List.setIfInBounds_toArray, List.set_cons_zero, List.set_cons_succ]
          refine wpAnyH_norm (l2 := #[true, true, true, true, true, true, true, true, true, false, true, true, false, false]) (f2 := 3) (by kernel_rfl) (by kernel_rfl) ?_
          refine wpAnyH_ready (rs := [9]) (by kernel_rfl) (by simp) ?_
          refine AllReadyH.cons rfl (fun K hK => ?_) AllReadyH.nil
          go_simp
          go_wp2_with (first | (go_at_call 24; refine (HSX.out _ (below_call HB3.out (Below.refl w3.heap.size w3).drew)).mono ?_; rintro e w4 ⟨rfl, hb4⟩; have HB4 := hid (below_call (Below.refl w3.heap.size w3).drew hb4); clear hb4))
          refine hK.out _ _ (HC4.out _ HB4.out) (fun hHeld => ?_)
          clear hK K
          simp only [List.getElem_toArray, List.getElem_cons_succ, List.getElem_cons_zero, Act.put, List.setIfInBounds_toArray, List.set_cons_zero, List.set_cons_succ]
          refine wpAnyH_norm (l2 := #[true, true, true, true, true, true, true, true, true, true, true, true, false, false]) (f2 := 2) (by kernel_rfl) (by kernel_rfl) ?_
          refine wpAnyH_ready (rs := [12]) (by kernel_rfl) (by simp) ?_
          refine AllReadyH.cons rfl (fun K hK => ?_) AllReadyH.nil
          go_simp
          go_wp2_with (first | (go_at_call 24; refine (HSc.out _ (below_call HB3.out HB4.out)).mono ?_; rintro e w5 ⟨rfl, hb5⟩; have HB5 := hid (below_call HB4.out hb5); clear hb5))
          refine hK.out _ _ (HC4.out _ HB5.out) (fun hHeld => ?_)
          clear hK K
          simp only [List.getElem_toArray, List.getElem_cons_succ, List.getElem_cons_zero, Act.put, List.setIfInBounds_toArray, List.set_cons_zero, List.set_cons_succ]
          refine wpAnyH_norm (l2 := #[true, true, true, true, true, true, true, true, true, true, true, true, true, false]) (f2 := 1) (by kernel_rfl) (by kernel_rfl) ?_
          refine wpAnyH_take (i := 13) (oi := _) (v := ?_) rfl (by kernel_rfl) (by kernel_rfl) (by kernel_rfl) (fun _ _ _ h => h) (Or.inl ⟨by rfl, ?_⟩) (by assumption) ?_
          rotate_left
          · (intro w hSw; (try dsimp only at hSw); go_simp; try with_reducible rfl)
          simp only [List.getElem_toArray, List.getElem_cons_succ, List.getElem_cons_zero, Act.put, List.setIfInBounds_toArray, List.set_cons_zero, List.set_cons_succ]
          refine wpAnyH_norm (l2 := #[true, true, true, true, true, true, true, true, true, true, true, true, true, true]) (f2 := 0) (by kernel_rfl) (by kernel_rfl) ?_
          refine wpAnyH_done (by kernel_rfl) ?_ _
          go_wp2
          go_meet
          case rel => exact ⟨by rw [nat_beq], below_call HB3.out HB5.out⟩
        case rest =>
          obtain ⟨rfl, hB6⟩ := hcut
          have HB6 := hid hB6
          clear hB6
          by_cases e : xr = ro
          · have hq1 : ((q : Int) + 1) = ((q + 1 : Nat) : Int) := by omega
            have HC1 := HCN.out
            rw [if_pos e] at HC1
            have HCQ := hid HC1
            rw [decide_eq_true e]
            rcases HFi.out.cases with hf | hf
            · subst hf
              clear HC1 hq1
              go_wp2
              exact ⟨⟨i + 1, i, kn2, by omega, by rw [HCQ.out]; go_num, rfl, rfl, by go_num, HFi.out.yes HX.out (by rw [← HXR.out]; exact e), HKn2.out, HB6.out⟩, by simp [intOf]; omega⟩
            · have hf2 : decide (fi < 0) = false := decide_eq_false (by omega)
              clear HC1 hq1
              go_wp2
              exact ⟨⟨i + 1, fi, kn2, by omega, by rw [HCQ.out]; go_num, rfl, rfl, by go_num, HFi.out.more hf, HKn2.out, HB6.out⟩, by simp [intOf]; omega⟩
          · have HC1 := HCN.out
            rw [if_neg e, Nat.add_zero] at HC1
            have HCQ := hid HC1
            clear HC1
            rw [decide_eq_false e]
            go_wp2
            exact ⟨⟨i + 1, fi, kn2, by omega, by rw [HCQ.out]; rfl, rfl, rfl, by go_num, HFi.out.no HX.out (by rw [← HXR.out]; exact e), HKn2.out, HB6.out⟩, by simp [intOf]; omega⟩
    · have hd : decide ((i : Int) < (L.length : Int)) = false := decide_eq_false (by omega)
      obtain rfl : i = L.length := by omega
      rw [List.take_length]
      obtain ⟨q, hq⟩ : ∃ q, q = cnt k s ro L := ⟨_, rfl⟩
      have hq64 : q ≤ 64 := by have := cnt_le (k := k) (s := s) (ro := ro) L; omega
      rw [← hq]
      have HQ := hid hq
      have x1 := HR.out.c1
      clear hq
      have HPk : Hid (∀ M W pb c', Rc W base r s n k pb c' M E hi mi → Wq wr W r pa pb → Cel W w.heap.size 0 c ∧ Wq w W r pa pb ∧ ¬ Blk pb w.heap.size) := fun M W pb c' hW hQ => by
        refine ⟨(HC.out _ HB.out).but hQ.but (fun e => ?_), hQ.pre (below_call HB1.out HB.out), fun e => ?_⟩
        · rcases e with e | e
          · have := HGL.out; omega
          · have := HBL.out _ e; omega
        · rcases hQ.on _ e with e | e
          · have := HBL.out _ e; omega
          · have := HSZ.out; have := HB.out.size; omega
      go_upto_if 55 with fail
      clear x6 hd
      go_cut [6] (fun v W => v = .int .i64 (q : Int) ∧ ∃ M pb c', Pre n k s L c M ∧ Rc W base r s n k pb c' M E hi mi ∧ Wq w W r pa pb ∧ Cel W w.heap.size 0 c ∧ ¬ Blk pb w.heap.size)
      case first =>
        rcases HKn.out with ⟨rfl, hno⟩ | ⟨j, x, rfl, hj, hx, hxc⟩
        · have HNo := hid hno
          clear hno
          by_cases hnq : n ≤ q
          · have hd : decide ((q : Int) ≥ (n : Int)) = true := decide_eq_true (by omega)
            have hfi : ∃ (j : Nat) (x : Pu), fi = (j : Int) ∧ L[j]? = some x ∧ rowN k s x.1 = ro ∧ ∀ (j' : Nat) (y : Pu), j' < j → L[j']? = some y → rowN k s y.1 ≠ ro := by
              rcases HFi.out with ⟨e, h⟩ | ⟨j, x, e, _, h1, h2, h3⟩
              · exfalso
                have hz : cnt k s ro L = 0 := List.countP_eq_zero.2 (fun y hy => by
                  obtain ⟨j, hj, e2⟩ := List.mem_iff_getElem.1 hy
                  have := h j y hj (by rw [← e2]; exact List.getElem?_eq_getElem hj)
                  simpa using this)
                have := HQ.out
                have := HR.out.n1
                omega
              · exact ⟨j, x, e, h1, h2, h3⟩
            obtain ⟨j, x, rfl, h1, h2, h3⟩ := hfi
            have HPre : Hid (Pre n k s L c (L.eraseIdx j)) := .inr ⟨fun j' y hy => HNo.out j' y (List.getElem?_eq_some_iff.1 hy).1 hy, .inl ⟨by rw [← HRO.out, ← HQ.out]; exact hnq, j, x, h1, by rw [← HRO.out]; exact h2, fun j' y hj' hy => by rw [← HRO.out]; exact h3 j' y hj' hy, rfl⟩⟩
            have hwo := hid (without_any HR.out j hL)
            clear h1 h2 h3
            go_wp2_with (first | (go_at_call 25; refine hwo.out.mono ?_; rintro e w5 ⟨pb, c', rfl, hr5, hq5⟩; have HR5 := hid hr5; have HQ5 := hid hq5; clear hr5 hq5))
            go_meet
            case rel =>
              obtain ⟨p1, p2, p3⟩ := HPk.out _ _ _ _ HR5.out HQ5.out
              exact ⟨rfl, _, pb, c', HPre.out, HR5.out, p2, p1, p3⟩
          · have hd : decide ((q : Int) ≥ (n : Int)) = false := decide_eq_false (by omega)
            have HPre : Hid (Pre n k s L c L) := .inr ⟨fun j' y hy => HNo.out j' y (List.getElem?_eq_some_iff.1 hy).1 hy, .inr ⟨by rw [← HRO.out, ← HQ.out]; omega, rfl⟩⟩
            go_wp2
            go_meet
            case rel =>
              obtain ⟨p1, p2, p3⟩ := HPk.out _ _ _ _ HR.out (Wq.refl _ _ (Below.refl _ _))
              exact ⟨rfl, L, pa, cap, HPre.out, HR.out, p2, p1, p3⟩
        · have HPre : Hid (Pre n k s L c (L.eraseIdx j)) := .inl ⟨j, x, hx, hxc, rfl⟩
          have hwo := hid (without_any HR.out j hL)
          clear hx hxc
          go_wp2_with (first | (go_at_call 25; refine hwo.out.mono ?_; rintro e w5 ⟨pb, c', rfl, hr5, hq5⟩; have HR5 := hid hr5; have HQ5 := hid hq5; clear hr5 hq5))
          go_meet
          case rel =>
            obtain ⟨p1, p2, p3⟩ := HPk.out _ _ _ _ HR5.out HQ5.out
            exact ⟨rfl, _, pb, c', HPre.out, HR5.out, p2, p1, p3⟩
      case rest =>
        obtain ⟨rfl, M, pb, c', hPre, hRm, hQm, hCm, hnb⟩ := hcut
        have HNB := hid hnb
        have HPre := hid hPre
        have HRm := hid hRm
        have HQm := hid hQm
        have HCm := hid hCm
        have hM := hPre.len
        clear hPre hRm hQm hCm hnb
        go_upto_region 18 with fail
        have hD := (Below.refl wc.heap.size wc).drew
        obtain ⟨a5, c5, w5, hrun, hO5, hG5⟩ := put_app (w := wc.drew) (HRm.out.own.later hD) (c, m) (HRm.out.later hD).hb (by omega)
        have hlen : (M ++ [(c, m)]).length = M.length + 1 := by simp
        have hfin := (HRm.out.later hD).put (M := M ++ [(c, m)]) hG5.but hG5.on (by rw [hlen]; exact hO5)
        rw [hlen] at hfin
        have HFIN := hid hfin
        have hnb := HNB.out
        have hA := HCm.out.later hD
        have hA8 := hA.later (below1 wc.drew (Obj.cells #[.int .i64 c.1, .int .u64 (c.2.1 : Int), .int .u64 (c.2.2 : Int), .int .i64 m] 66))
        have hA9 := hA.but hG5.but hnb
        have hA12 := hA9.but (S := (· = r)) ((But.refl (· = r) w5).setCell (p := ⟨r, 6, none⟩) (show r = r from rfl) (.slice a5 (M.length + 1) c5)) (by have := HGL.out; omega)
        have HS0 := hid (show (wc.drew.cell? ⟨w.heap.size, 0, none⟩ = some (.int .i64 c.1) ∧ wc.drew.cell? ⟨w.heap.size, 1, none⟩ = some (.int .u64 (c.2.1 : Int)) ∧ wc.drew.cell? ⟨w.heap.size, 2, none⟩ = some (.int .u64 (c.2.2 : Int))) from ⟨hA.c0, by have := hA.c1; rwa [Nat.zero_add] at this, by have := hA.c2; rwa [Nat.zero_add] at this⟩)
        have HS8 := hid (show ((wc.drew.alloc (Obj.cells #[.int .i64 c.1, .int .u64 (c.2.1 : Int), .int .u64 (c.2.2 : Int), .int .i64 m] 66)).cell? ⟨w.heap.size, 0, none⟩ = some (.int .i64 c.1) ∧ (wc.drew.alloc (Obj.cells #[.int .i64 c.1, .int .u64 (c.2.1 : Int), .int .u64 (c.2.2 : Int), .int .i64 m] 66)).cell? ⟨w.heap.size, 1, none⟩ = some (.int .u64 (c.2.1 : Int)) ∧ (wc.drew.alloc (Obj.cells #[.int .i64 c.1, .int .u64 (c.2.1 : Int), .int .u64 (c.2.2 : Int), .int .i64 m] 66)).cell? ⟨w.heap.size, 2, none⟩ = some (.int .u64 (c.2.2 : Int))) from ⟨hA8.c0, by have := hA8.c1; rwa [Nat.zero_add] at this, by have := hA8.c2; rwa [Nat.zero_add] at this⟩)
        have HS9 := hid (show (w5.cell? ⟨w.heap.size, 0, none⟩ = some (.int .i64 c.1) ∧ w5.cell? ⟨w.heap.size, 1, none⟩ = some (.int .u64 (c.2.1 : Int)) ∧ w5.cell? ⟨w.heap.size, 2, none⟩ = some (.int .u64 (c.2.2 : Int))) from ⟨hA9.c0, by have := hA9.c1; rwa [Nat.zero_add] at this, by have := hA9.c2; rwa [Nat.zero_add] at this⟩)
        have HS12 := hid (show ((w5.setCell ⟨r, 6, none⟩ (.slice a5 (M.length + 1) c5)).cell? ⟨w.heap.size, 0, none⟩ = some (.int .i64 c.1) ∧ (w5.setCell ⟨r, 6, none⟩ (.slice a5 (M.length + 1) c5)).cell? ⟨w.heap.size, 1, none⟩ = some (.int .u64 (c.2.1 : Int)) ∧ (w5.setCell ⟨r, 6, none⟩ (.slice a5 (M.length + 1) c5)).cell? ⟨w.heap.size, 2, none⟩ = some (.int .u64 (c.2.2 : Int))) from ⟨hA12.c0, by have := hA12.c1; rwa [Nat.zero_add] at this, by have := hA12.c2; rwa [Nat.zero_add] at this⟩)
        have x6 : wc.drew.cell? ⟨r, 6, none⟩ = some (.slice pb M.length c') := (HRm.out.later hD).cl.1
        have x6a : (wc.drew.alloc (Obj.cells #[.int .i64 c.1, .int .u64 (c.2.1 : Int), .int .u64 (c.2.2 : Int), .int .i64 m] 66)).cell? ⟨r, 6, none⟩ = some (.slice pb M.length c') := ((HRm.out.later hD).later (below1 _ _)).cl.1
        have x6b : (wc.alloc (Obj.cells #[.int .i64 c.1, .int .u64 (c.2.1 : Int), .int .u64 (c.2.2 : Int), .int .i64 m] 66)).drew.cell? ⟨r, 6, none⟩ = some (.slice pb M.length c') := x6a
        have x6c : wc.cell? ⟨r, 6, none⟩ = some (.slice pb M.length c') := HRm.out.cl.1
        have hnr : ¬ Blk pb r := fun e => HRm.out.ap r e rfl
        have hy6 := (HRm.out.later hD).cl.but hG5.but hnr
        have y6 := hy6.1
        have f6 := hy6.2
        have HRUN := hid hrun
        clear hrun hO5 hG5 hlen hfin hnb hA hA8 hA9 hA12 hnr hy6 hD hM
        refine wp_region_held_drew (S := (fun U : World => U.cell? ⟨w.heap.size, 0, none⟩ = some (.int .i64 c.1) ∧ U.cell? ⟨w.heap.size, 1, none⟩ = some (.int .u64 (c.2.1 : Int)) ∧ U.cell? ⟨w.heap.size, 2, none⟩ = some (.int .u64 (c.2.2 : Int)))) (by kernel_rfl) (HS0.out) (fun hHeld => ?_)
        refine wpAnyH_norm (l2 := #[false, false, false, false, false, false, false, false, false, false, false, false, false]) (f2 := 13) (by kernel_rfl) (by kernel_rfl) ?_
        refine wpAnyH_take (i := 0) (oi := _) (v := ?_) rfl (by kernel_rfl) (by kernel_rfl) (by kernel_rfl) (fun _ _ _ h => h) (Or.inl ⟨by rfl, ?_⟩) (by assumption) ?_
        rotate_left
        · (intro w hSw; (try dsimp only at hSw); go_simp; try with_reducible rfl)
        simp only [List.getElem_toArray, List.getElem_cons_succ, List.getElem_cons_zero, Act.put, List.setIfInBounds_toArray, List.set_cons_zero, List.set_cons_succ]
        refine wpAnyH_norm (l2 := #[true, false, false, false, false, false, false, false, false, false, false, false, false]) (f2 := 12) (by kernel_rfl) (by kernel_rfl) ?_
        refine wpAnyH_take (i := 1) (oi := _) (v := ?_) rfl (by kernel_rfl) (by kernel_rfl) (by kernel_rfl) (fun _ _ _ h => h) (Or.inl ⟨by rfl, ?_⟩) (by assumption) ?_
        rotate_left
        · (intro w hSw; (try dsimp only at hSw); go_simp; try with_reducible rfl)
        simp only [List.getElem_toArray, List.getElem_cons_succ, List.getElem_cons_zero, Act.put, List.setIfInBounds_toArray, List.set_cons_zero, List.set_cons_succ]
        refine wpAnyH_norm (l2 := #[true, true, false, false, false, false, false, false, false, false, false, false, false]) (f2 := 11) (by kernel_rfl) (by kernel_rfl) ?_
        refine wpAnyH_take (i := 2) (oi := _) (v := ?_) rfl (by kernel_rfl) (by kernel_rfl) (by kernel_rfl) (fun _ _ _ h => h) (Or.inl ⟨by rfl, ?_⟩) (by assumption) ?_
        rotate_left
        · (intro w hSw; (try dsimp only at hSw); go_simp; try with_reducible rfl)
        simp only [List.getElem_toArray, List.getElem_cons_succ, List.getElem_cons_zero, Act.put, List.setIfInBounds_toArray, List.set_cons_zero, List.set_cons_succ]
        refine wpAnyH_norm (l2 := #[true, true, true, false, false, false, false, false, false, false, false, false, false]) (f2 := 10) (by kernel_rfl) (by kernel_rfl) ?_
        refine wpAnyH_take (i := 3) (oi := _) (v := ?_) rfl (by kernel_rfl) (by kernel_rfl) (by kernel_rfl) (fun _ _ _ h => h) (Or.inl ⟨by rfl, ?_⟩) (by assumption) ?_
        rotate_left
        · (intro w hSw; (try dsimp only at hSw); go_simp; try with_reducible rfl)
        simp only [List.getElem_toArray, List.getElem_cons_succ, List.getElem_cons_zero, Act.put, List.setIfInBounds_toArray, List.set_cons_zero, List.set_cons_succ]
        refine wpAnyH_norm (l2 := #[true, true, true, true, false, false, false, false, false, false, false, false, false]) (f2 := 9) (by kernel_rfl) (by kernel_rfl) ?_
        refine wpAnyH_take (i := 5) (oi := _) (v := ?_) rfl (by kernel_rfl) (by kernel_rfl) (by kernel_rfl) (fun _ _ _ h => h) (Or.inl ⟨by rfl, ?_⟩) (by assumption) ?_
        rotate_left
        · (intro w hSw; (try dsimp only at hSw); go_simp; try with_reducible rfl)
        simp only [List.getElem_toArray, List.getElem_cons_succ, List.getElem_cons_zero, Act.put, List.setIfInBounds_toArray, List.set_cons_zero, List.set_cons_succ]
        refine wpAnyH_norm (l2 := #[true, true, true, true, false, true, false, false, false, false, false, false, false]) (f2 := 8) (by kernel_rfl) (by kernel_rfl) ?_
        refine wpAnyH_take (i := 6) (oi := _) (v := ?_) rfl (by kernel_rfl) (by kernel_rfl) (by kernel_rfl) (fun _ _ _ h => h) (Or.inl ⟨by rfl, ?_⟩) (by assumption) ?_
        rotate_left
        · (intro w hSw; (try dsimp only at hSw); go_simp; try with_reducible rfl)
        simp only [List.getElem_toArray, List.getElem_cons_succ, List.getElem_cons_zero, Act.put, List.setIfInBounds_toArray, List.set_cons_zero, List.set_cons_succ]
        refine wpAnyH_norm (l2 := #[true, true, true, true, false, true, true, false, false, false, false, false, false]) (f2 := 7) (by kernel_rfl) (by kernel_rfl) ?_
        refine wpAnyH_take (i := 7) (oi := _) (v := ?_) rfl (by kernel_rfl) (by kernel_rfl) (by kernel_rfl) (fun _ _ _ h => h) (Or.inl ⟨by rfl, ?_⟩) (by assumption) ?_
        rotate_left
        · (intro w hSw; (try dsimp only at hSw); go_simp; try with_reducible rfl)
        simp only [List.getElem_toArray, List.getElem_cons_succ, List.getElem_cons_zero, Act.put, List.setIfInBounds_toArray, List.set_cons_zero, List.set_cons_succ]
        refine wpAnyH_norm (l2 := #[true, true, true, true, false, true, true, true, false, false, false, false, false]) (f2 := 6) (by kernel_rfl) (by kernel_rfl) ?_
        refine wpAnyH_ready (rs := [4, 8]) (by kernel_rfl) (by simp) ?_
        refine AllReadyH.cons rfl (fun K hK => ?_) ?_
        · go_simp
          refine hK.out _ _ (HS0.out) (fun hHeld => ?_)
          clear hK K
          simp only [List.getElem_toArray, List.getElem_cons_succ, List.getElem_cons_zero, Act.put, List.setIfInBounds_toArray, List.set_cons_zero, List.set_cons_succ]
          refine wpAnyH_norm (l2 := #[true, true, true, true, true, true, true, true, false, false, false, false, false]) (f2 := 5) (by kernel_rfl) (by kernel_rfl) ?_
          refine wpAnyH_ready (rs := [8]) (by kernel_rfl) (by simp) ?_
          refine AllReadyH.cons rfl (fun K hK => ?_) AllReadyH.nil
          go_simp
          refine hK.out _ _ (HS8.out) (fun hHeld => ?_)
          clear hK K
          simp only [List.getElem_toArray, List.getElem_cons_succ, List.getElem_cons_zero, Act.put, List.setIfInBounds_toArray, List.set_cons_zero, List.set_cons_succ]
          refine wpAnyH_norm (l2 := #[true, true, true, true, true, true, true, true, true, false, false, false, false]) (f2 := 4) (by kernel_rfl) (by kernel_rfl) ?_
          refine wpAnyH_ready (rs := [9]) (by kernel_rfl) (by simp) ?_
          refine AllReadyH.cons rfl (fun K hK => ?_) AllReadyH.nil
          refine wp_append_known (.tmp 72) (.tmp 76) 51 rfl _ _ rfl rfl _ w5 HRUN.out ?_
          refine hK.out _ _ (HS9.out) (fun hHeld => ?_)
          clear hK K
          simp only [List.getElem_toArray, List.getElem_cons_succ, List.getElem_cons_zero, Act.put, List.setIfInBounds_toArray, List.set_cons_zero, List.set_cons_succ]
          refine wpAnyH_norm (l2 := #[true, true, true, true, true, true, true, true, true, true, false, false, false]) (f2 := 3) (by kernel_rfl) (by kernel_rfl) ?_
          refine wpAnyH_take (i := 10) (oi := _) (v := ?_) rfl (by kernel_rfl) (by kernel_rfl) (by kernel_rfl) (fun _ _ _ h => h) (Or.inl ⟨by rfl, ?_⟩) (by assumption) ?_
          rotate_left
          · (intro w hSw; (try dsimp only at hSw); go_simp; try with_reducible rfl)
          simp only [List.getElem_toArray, List.getElem_cons_succ, List.getElem_cons_zero, Act.put, List.setIfInBounds_toArray, List.set_cons_zero, List.set_cons_succ]
          refine wpAnyH_norm (l2 := #[true, true, true, true, true, true, true, true, true, true, true, false, false]) (f2 := 2) (by kernel_rfl) (by kernel_rfl) ?_
          refine wpAnyH_take (i := 11) (oi := _) (v := ?_) rfl (by kernel_rfl) (by kernel_rfl) (by kernel_rfl) (fun _ _ _ h => h) (Or.inl ⟨by rfl, ?_⟩) (by assumption) ?_
          rotate_left
          · (intro w hSw; (try dsimp only at hSw); go_simp; try with_reducible rfl)
          simp only [List.getElem_toArray, List.getElem_cons_succ, List.getElem_cons_zero, Act.put, List.setIfInBounds_toArray, List.set_cons_zero, List.set_cons_succ]
          refine wpAnyH_norm (l2 := #[true, true, true, true, true, true, true, true, true, true, true, true, false]) (f2 := 1) (by kernel_rfl) (by kernel_rfl) ?_
          refine wpAnyH_ready (rs := [12]) (by kernel_rfl) (by simp) ?_
          refine AllReadyH.cons rfl (fun K hK => ?_) AllReadyH.nil
          go_simp
          refine hK.out _ _ (HS12.out) (fun hHeld => ?_)
          clear hK K
          simp only [List.getElem_toArray, List.getElem_cons_succ, List.getElem_cons_zero, Act.put, List.setIfInBounds_toArray, List.set_cons_zero, List.set_cons_succ]
          refine wpAnyH_norm (l2 := #[true, true, true, true, true, true, true, true, true, true, true, true, true]) (f2 := 0) (by kernel_rfl) (by kernel_rfl) ?_
          refine wpAnyH_done (by kernel_rfl) ?_ _
          go_wp2
          refine bodyPost_end (v := .tuple #[]) (by simp [results, Try.results17, go_sem]) rfl ?_
          exact ⟨rfl, M, HPre.out, a5, ⟨c5, HFIN.out.1⟩, HQm.out.trans (Wq.pre (Below.refl wc.heap.size wc).drew HFIN.out.2)⟩
        refine AllReadyH.cons rfl (fun K hK => ?_) AllReadyH.nil
        go_simp
        refine hK.out _ _ (HS8.out) (fun hHeld => ?_)
        clear hK K
        simp only [List.getElem_toArray, List.getElem_cons_succ, List.getElem_cons_zero, Act.put, List.setIfInBounds_toArray, List.set_cons_zero, List.set_cons_succ]
        refine wpAnyH_norm (l2 := #[true, true, true, true, false, true, true, true, true, false, false, false, false]) (f2 := 5) (by kernel_rfl) (by kernel_rfl) ?_
        refine wpAnyH_ready (rs := [4]) (by kernel_rfl) (by simp) ?_
        refine AllReadyH.cons rfl (fun K hK => ?_) AllReadyH.nil
        go_simp
        refine hK.out _ _ (HS8.out) (fun hHeld => ?_)
        clear hK K
        simp only [List.getElem_toArray, List.getElem_cons_succ, List.getElem_cons_zero, Act.put, List.setIfInBounds_toArray, List.set_cons_zero, List.set_cons_succ]
        refine wpAnyH_norm (l2 := #[true, true, true, true, true, true, true, true, true, false, false, false, false]) (f2 := 4) (by kernel_rfl) (by kernel_rfl) ?_
        refine wpAnyH_ready (rs := [9]) (by kernel_rfl) (by simp) ?_
        refine AllReadyH.cons rfl (fun K hK => ?_) AllReadyH.nil
        refine wp_append_known (.tmp 72) (.tmp 76) 51 rfl _ _ rfl rfl _ w5 HRUN.out ?_
        refine hK.out _ _ (HS9.out) (fun hHeld => ?_)
        clear hK K
        simp only [List.getElem_toArray, List.getElem_cons_succ, List.getElem_cons_zero, Act.put, List.setIfInBounds_toArray, List.set_cons_zero, List.set_cons_succ]
        refine wpAnyH_norm (l2 := #[true, true, true, true, true, true, true, true, true, true, false, false, false]) (f2 := 3) (by kernel_rfl) (by kernel_rfl) ?_
        refine wpAnyH_take (i := 10) (oi := _) (v := ?_) rfl (by kernel_rfl) (by kernel_rfl) (by kernel_rfl) (fun _ _ _ h => h) (Or.inl ⟨by rfl, ?_⟩) (by assumption) ?_
        rotate_left
        · (intro w hSw; (try dsimp only at hSw); go_simp; try with_reducible rfl)
        simp only [List.getElem_toArray, List.getElem_cons_succ, List.getElem_cons_zero, Act.put, List.setIfInBounds_toArray, List.set_cons_zero, List.set_cons_succ]
        refine wpAnyH_norm (l2 := #[true, true, true, true, true, true, true, true, true, true, true, false, false]) (f2 := 2) (by kernel_rfl) (by kernel_rfl) ?_
        refine wpAnyH_take (i := 11) (oi := _) (v := ?_) rfl (by kernel_rfl) (by kernel_rfl) (by kernel_rfl) (fun _ _ _ h => h) (Or.inl ⟨by rfl, ?_⟩) (by assumption) ?_
        rotate_left
        · (intro w hSw; (try dsimp only at hSw); go_simp; try with_reducible rfl)
        simp only [List.getElem_toArray, List.getElem_cons_succ, List.getElem_cons_zero, Act.put, List.setIfInBounds_toArray, List.set_cons_zero, List.set_cons_succ]
        refine wpAnyH_norm (l2 := #[true, true, true, true, true, true, true, true, true, true, true, true, false]) (f2 := 1) (by kernel_rfl) (by kernel_rfl) ?_
        refine wpAnyH_ready (rs := [12]) (by kernel_rfl) (by simp) ?_
        refine AllReadyH.cons rfl (fun K hK => ?_) AllReadyH.nil
        go_simp
        refine hK.out _ _ (HS12.out) (fun hHeld => ?_)
        clear hK K
        simp only [List.getElem_toArray, List.getElem_cons_succ, List.getElem_cons_zero, Act.put, List.setIfInBounds_toArray, List.set_cons_zero, List.set_cons_succ]
        refine wpAnyH_norm (l2 := #[true, true, true, true, true, true, true, true, true, true, true, true, true]) (f2 := 0) (by kernel_rfl) (by kernel_rfl) ?_
        refine wpAnyH_done (by kernel_rfl) ?_ _
        go_wp2
        refine bodyPost_end (v := .tuple #[]) (by simp [results, Try.results17, go_sem]) rfl ?_
        exact ⟨rfl, M, HPre.out, a5, ⟨c5, HFIN.out.1⟩, HQm.out.trans (Wq.pre (Below.refl wc.heap.size wc).drew HFIN.out.2)⟩
end Go.Proofs.Ythlojdclncikiaa
