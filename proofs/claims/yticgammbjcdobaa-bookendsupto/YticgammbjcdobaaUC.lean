import Derived.Test.YticgammbjcdobaaUA
import Derived.Test.YticgammbjcdobaaRows
namespace Go.Proofs.Yticgammbjcdobaa
open Go.ChangeShapes Go.WideShapes Go.ChangeAt Go.RowKit Go.Joins
set_option linter.unusedVariables false
set_option linter.unusedSimpArgs false
theorem addr_at (b o n : Nat) : (⟨b, o, none⟩ : Addr).add n = ⟨b, o + n, none⟩ := by
  unfold Addr.add
  split
  · subst_vars; rfl
  · rfl
theorem at_cells {W : World} {x : Addr} {k : Nat} {L : List Value} {u : Value} (hu : W.cell? ((x.add 0).add 0) = some u) (h : ∀ j v, L[j]? = some v → W.cell? ((x.add k).add j) = some v) : ∃ b o, x = ⟨b, o, none⟩ ∧ W.rangeAt b (o + k) L := by
  obtain ⟨b, o, spot⟩ := x
  have hs : spot = none := by simpa [Addr.add] using World.cell?_spot hu
  subst hs
  refine ⟨b, o, rfl, fun j v hv => ?_⟩
  have := h j v hv
  rw [addr_at, addr_at] at this
  exact this
set_option maxRecDepth 100000 in
theorem open_calls {H : Type} {enc : TypeId × Value → H} {W : World} {r : Reach} {base : Nat} {v : Value} {d : DataW H} {p : List MemPlace} (hv : Value.okWide Try.prog W r base 48 v) (h : DataW.Trod enc Try.prog W 0 (fun _ => true) true 48 v d p) :
    ∃ a n cap, ∃ X : List Ci, v = .slice a n cap ∧ X.length = n ∧ n ≤ Rows.uptoBulk d ∧ Cin W a X ∧ (∀ z ∈ X, z.x.d.n ≤ Rows.uptoBulk d ∧ z.x.gs.n ≤ Rows.uptoBulk d) ∧ (X.map (fun z => z.x.gs.n)).sum ≤ Rows.uptoBulk d := by
  obtain ⟨a, n, cap, X, rfl, hn, hb, hX, hs⟩ := open_rows (α := Ci) Try.underlying48 cz36 (fun x e z => OneC W x e z) (fun n x y hy => call_cells n x y hy) hv h
  refine ⟨a, n, cap, X, rfl, hn, hb, ⟨fun i z hz => ?_, fun z hz => ?_⟩, fun z hz => ?_, hs _ (fun x el z hz => hz.bg)⟩
  · obtain ⟨x, el, rfl, ho, _⟩ := hX i z hz
    obtain ⟨z0, hz0⟩ : ∃ z0, X[0]? = some z0 := ⟨_, List.getElem?_eq_getElem (by have := (List.getElem?_eq_some_iff.1 hz).1; omega)⟩
    obtain ⟨x', el0, e0, ho0, _⟩ := hX 0 z0 hz0
    cases e0
    obtain ⟨b, o, rfl, hr⟩ := at_cells (ho0.cells 0 _ rfl) ho.cells
    exact ⟨b, o, rfl, hr⟩
  · obtain ⟨i, hi⟩ := List.getElem?_of_mem hz
    obtain ⟨x, el, _, ho, _⟩ := hX i z hi
    exact ⟨ho.ok, ho.d, ho.g⟩
  · obtain ⟨i, hi⟩ := List.getElem?_of_mem hz
    obtain ⟨x, el, _, ho, hle⟩ := hX i z hi
    exact ⟨Nat.le_trans ho.bd hle, Nat.le_trans ho.bg hle⟩
set_option maxRecDepth 100000 in
theorem open_replies {H : Type} {enc : TypeId × Value → H} {W : World} {r : Reach} {base : Nat} {v : Value} {d : DataW H} {p : List MemPlace} (hv : Value.okWide Try.prog W r base 49 v) (h : DataW.Trod enc Try.prog W 0 (fun _ => true) true 49 v d p) :
    ∃ a n cap, ∃ Y : List Ri, v = .slice a n cap ∧ Y.length = n ∧ n ≤ Rows.uptoBulk d ∧ Rin W a Y ∧ (∀ z ∈ Y, z.d.n ≤ Rows.uptoBulk d) ∧ (Y.map (fun z => z.d.n)).sum ≤ Rows.uptoBulk d := by
  obtain ⟨a, n, cap, X, rfl, hn, hb, hX, hs⟩ := open_rows (α := Ri) Try.underlying49 cz39 (fun x e z => OneR W x e z) (fun n x y hy => reply_cells n x y hy) hv h
  refine ⟨a, n, cap, X, rfl, hn, hb, ⟨fun i z hz => ?_, fun z hz => ?_⟩, fun z hz => ?_, hs _ (fun x el z hz => hz.bd)⟩
  · obtain ⟨x, el, rfl, ho, _⟩ := hX i z hz
    obtain ⟨z0, hz0⟩ : ∃ z0, X[0]? = some z0 := ⟨_, List.getElem?_eq_getElem (by have := (List.getElem?_eq_some_iff.1 hz).1; omega)⟩
    obtain ⟨x', el0, e0, ho0, _⟩ := hX 0 z0 hz0
    cases e0
    obtain ⟨b, o, rfl, hr⟩ := at_cells (ho0.cells 0 _ rfl) ho.cells
    exact ⟨b, o, rfl, hr⟩
  · obtain ⟨i, hi⟩ := List.getElem?_of_mem hz
    obtain ⟨x, el, _, ho, _⟩ := hX i z hi
    exact ⟨ho.c, ho.n, ho.d⟩
  · obtain ⟨i, hi⟩ := List.getElem?_of_mem hz
    obtain ⟨x, el, _, ho, hle⟩ := hX i z hi
    exact Nat.le_trans ho.bd hle
theorem cost_sum : ∀ (X : List Ci) (Y : List Ri), ((X.zip Y).map cost).sum ≤ 3 * X.length + (X.map (fun z => z.x.gs.n)).sum + (Y.map (fun z => z.d.n)).sum
  | [], Y => by simp
  | _ :: _, [] => by simp
  | x :: X, y :: Y => by
    have := cost_sum X Y
    simp only [List.zip_cons_cons, List.map_cons, List.sum_cons, List.length_cons, cost]
    omega
set_option maxRecDepth 100000 in
theorem ends_lifted (os : _root_.Go.Os) (started : os.Started) (H : Type) (enc : TypeId × Value → H) (F : Stop.Interp) :
    ReturnsInHanded {} Try.checked os 4 .any ((Rows.OpenSpec.upto Rows.bookEndsSpec).pre6 enc Try.prog Try.f4 Rows.bookEndsUptoRow.domain false) (((Rows.OpenSpec.upto Rows.bookEndsSpec).at F).post enc Try.prog Try.f4 false true false false) := by
  refine returnsInHanded_of_cond (C := Try.checked) (s := Rows.OpenSpec.upto Rows.bookEndsSpec) (k := Rows.uptoSmall) rfl ownKe started (by kernel_rfl) Try.func4
    (OpenSpec.witness (enc := enc) (C := Try.checked) (s := Rows.OpenSpec.upto Rows.bookEndsSpec) (k := Rows.uptoSmall) rfl false ⟨#[], #[.slice none 0 0, .slice none 0 0, .int .i64 0], []⟩ 8 (by kernel_rfl) (by kernel_rfl) (by kernel_rfl)
      (x := ([.nil, .nil, .lit (.int .i64 0)], [], [])) (by kernel_rfl) rfl (by kernel_rfl)) ?_
  intro W base args ds gs before hval0 hW hcnd hk _
  have hval : ∀ (j : Nat) t v, Try.f4.params[j]? = some t → args[j]? = some v → Value.okWide Try.prog W .any base t v := hval0
  have hW' := hW
  obtain ⟨p, q, hA0, hV, rfl, hfz, hnd⟩ := hW
  have hA : DataW.TrodAll enc Try.prog W 0 (fun _ => true) true Try.f4.params.toList args.toList ds p := hA0
  rw [Try.params4] at hA hval
  obtain ⟨v0, vs0, d0, ds0, p0, q0, hargs, rfl, rfl, h0, r0⟩ := trodAll_cons hA
  obtain ⟨v1, vs1, d1, ds1, p1, q1, rfl, rfl, rfl, h1, r1⟩ := trodAll_cons r0
  obtain ⟨v2, vs2, d2, ds2, p2, q2, rfl, rfl, rfl, h2, r2⟩ := trodAll_cons r1
  obtain ⟨rfl, rfl, rfl⟩ := trodAll_nil r2
  obtain rfl : args = #[v0, v1, v2] := by cases args; simp_all
  obtain ⟨rfl, rfl⟩ := trodVars_none hV
  have k0 := h0
  have k1 := h1
  have lt0 : ∀ x ∈ p0, x.block < W.heap.size := by obtain ⟨m, hm⟩ := k0; exact DataW.trod_lt m _ _ _ hm
  have lt1 : ∀ x ∈ p1, x.block < W.heap.size := by obtain ⟨m, hm⟩ := k1; exact DataW.trod_lt m _ _ _ hm
  obtain ⟨x2, rfl, rfl, rfl, w2⟩ := open_int Try.underlying3 (hval 2 3 v2 rfl rfl) h2
  have hsmall : Rows.uptoBulk d0 + Rows.uptoBulk d1 ≤ 1048576 := by
    have h3 : Rows.uptoBulkAll ([d0, d1, .lit (.int .i64 x2)] ++ []) ≤ 1048576 := of_decide_eq_true hk
    simp only [List.append_nil, Rows.uptoBulkAll] at h3
    omega
  obtain ⟨ca, cn, cc, X, rfl, hXl, hXb, hX, hXe, hXs⟩ := open_calls (hval 0 48 v0 rfl rfl) h0
  obtain ⟨ra, rn, rc, Y, rfl, hYl, hYb, hY, hYe, hYs⟩ := open_replies (hval 1 49 v1 rfl rfl) h1
  subst hXl hYl
  clear hA0 hval0
  have hcs := cost_sum X Y
  refine (ends_law revoked_bk ca ra cc rc x2 X Y W hX hY (i64_of w2) (by omega) (by omega) (by omega) (fun z hz => by have := hXe z hz; omega) (fun z hz => by have := hYe z hz; omega)).mono fun e W' ⟨he, bel⟩ => ?_
  subst he
  exact ⟨_, rfl, _, _, _, [], _, [], hW', trodAll_mk1 (shut_bool Try.underlying4 _), (trodAll_cons_mk (Below.trod laidOut (by kernel_rfl) (of_decide_eq_true (by kernel_rfl)) k0 bel lt0) (trodAll_cons_mk (Below.trod laidOut (by kernel_rfl) (of_decide_eq_true (by kernel_rfl)) k1 bel lt1) (trodAll_cons_mk (shut_int Try.underlying3 w2) trodAll_mk0))), rfl, bel.frame _, fun h => by cases h⟩
theorem bookEndsUpto_holds : Rows.BookEndsUptoSaid :=
  OpenClaim.holds_of_cond 4 Try.f4 rfl rfl rfl rfl rfl rfl rfl ⟨rfl, rfl, rfl, rfl, rfl⟩ rfl rfl rfl rfl rfl (by kernel_rfl) Try.func4 (by kernel_rfl)
    (of_decide_eq_true (by kernel_rfl)) (by unfold Func.isWrapper; first | (rw [if_pos (by decide +kernel)]; kernel_rfl) | (rw [if_neg (by decide +kernel)]; exact ⟨rfl, rfl⟩))
    (fun os started H enc _ F => ends_lifted os started H enc F)
#print axioms bookEndsUpto_holds
end Go.Proofs.Yticgammbjcdobaa
