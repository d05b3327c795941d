import Derived.Test.YtffmodpgddecnaaZ05
namespace Go.Proofs.Ytffmodpgddecnaa.V
open Go.RowKit
open Go.Proofs.Ytffmodpgddecnaa.H (B64 Cp)
set_option linter.unusedVariables false
set_option linter.unusedSimpArgs false
section
variable {w w' : World}
def Fl (w : World) (a : Option Addr) (L : List Value) : Prop := 0 < L.length → ∃ g, a = some ⟨g, 0, none⟩ ∧ ∀ j v, L[j]? = some v → w.cell? ⟨g, j, none⟩ = some v
theorem Fl.later {a : Option Addr} {L : List Value} (h : Fl w a L) (hb : Below w.heap.size w w') : Fl w' a L := fun h0 => by
  obtain ⟨g, e, hc⟩ := h h0
  exact ⟨g, e, fun j v hv => cell_later hb (hc j v hv)⟩
theorem Fl.of {base : Nat} {e : TypeId} {k : Nat} {a : Option Addr} {n cap : Nat} {L : List Value} (h : Ow w base e k a n cap L) (hk : L.length = n * k) : Fl w a L := fun h0 => by
  have hn : 0 < n := Nat.pos_of_ne_zero (fun e => by rw [e, Nat.zero_mul] at hk; omega)
  obtain ⟨b, h1, h2⟩ := Ow.at_ h hn
  exact ⟨b, h1, h2⟩
theorem Fl.own {base : Nat} {e : TypeId} {a : Option Addr} {n cap : Nat} {L : List Value} (h : Own w base e a n cap L) : Fl w a L := Fl.of h.row (by rw [h.len, Nat.mul_one])
set_option maxRecDepth 100000 in
set_option maxHeartbeats 2000000 in
theorem sameBytes_eq (L : List Nat) {a b : Option Addr} {ca cb : Nat} (h : Fl w a (S.u8s L)) (k : Fl w b (S.u8s L)) (hn : L.length ≤ 140737488355328) :
    Calls Try.prog 17 #[.slice a L.length ca, .slice b L.length cb] w fun e w' => e = .returned (.bool true) ∧ Below w.heap.size w w' := by
  obtain ⟨n, hnn⟩ : ∃ n, n = L.length := ⟨_, rfl⟩
  have HL := hid hnn
  have H := hid h
  have HK := hid k
  rw [← hnn] at hn ⊢
  clear h k hnn
  go_enter Try.func17, Try.ntmps17
  go_upto_region 4 with fail
  go_loopw [5] (fun v U => ∃ i : Nat, v = .int .i64 (i : Int) ∧ i ≤ n ∧ Below w.heap.size w U) (fun v _ => n - S.ivN v)
  case atStart => exact ⟨0, rfl, Nat.zero_le _, Below.refl _ _⟩
  case round =>
    obtain ⟨i, rfl, hi, hB⟩ := hrel
    have HIn := hid hi
    have HB := hid hB
    clear hi hB
    by_cases hlt : i < n
    · have hd : decide ((i : Int) < (n : Int)) = true := decide_eq_true (by omega)
      obtain ⟨x, hx⟩ : ∃ x, L[i]? = some x := ⟨_, List.getElem?_eq_getElem (by have := HL.out; omega)⟩
      have h0 : 0 < (S.u8s L).length := by rw [S.u8s_length]; have := HL.out; omega
      obtain ⟨ga, rfl, hca⟩ := H.out h0
      obtain ⟨gb, rfl, hcb⟩ := HK.out h0
      skip
      have HS : Hid (∀ U, Below wr.heap.size wr U → U.cell? ⟨ga, i, none⟩ = some (.int .u8 (x : Int)) ∧ U.cell? ⟨gb, i, none⟩ = some (.int .u8 (x : Int))) := fun U hU => by
        have hU2 := below_call HB.out hU
        exact ⟨cell_later hU2 (hca _ _ (by simp [S.u8s, hx])), cell_later hU2 (hcb _ _ (by simp [S.u8s, hx]))⟩
      clear hca hcb hx h0
      go_upto_region 6 with fail
      go_region_held3 (fun U => U.cell? ⟨ga, i, none⟩ = some (.int .u8 (x : Int)) ∧ U.cell? ⟨gb, i, none⟩ = some (.int .u8 (x : Int))) (first | exact HS.out _ (Below.refl _ _).drew | exact HS.out _ (Below.refl _ _)) (first | fail)
      all_goals (try go_wp2)
      all_goals exact ⟨⟨i + 1, rfl, by omega, (HB.out.drew)⟩, by simp [S.ivN]; omega⟩
    · obtain rfl : i = n := by have := HIn.out; omega
      have hd : decide ((i : Int) < (i : Int)) = false := by simp
      go_wp2
      go_ret
      exact ⟨ret_bool rfl, HB.out⟩
theorem caps_at : ∀ (M : List Cp) (j : Nat) (t : Cp), M[j]? = some t → ∀ k, k < 3 → (caps M)[j * 3 + k]? = (encC t)[k]?
  | [], j, t, h, k, hk => by simp at h
  | x :: M, 0, t, h, k, hk => by
    simp only [List.getElem?_cons_zero, Option.some.injEq] at h
    subst h
    simp only [caps, List.flatMap_cons]
    rw [List.getElem?_append_left (by simp [encC]; omega)]
    simp
  | x :: M, j + 1, t, h, k, hk => by
    rw [List.getElem?_cons_succ] at h
    have := caps_at M j t h k hk
    simp only [caps, List.flatMap_cons] at this ⊢
    rw [List.getElem?_append_right (by simp [encC]; omega), ← this]
    congr 1
    simp [encC]
    omega
theorem caps_len3 (M : List Cp) : (caps M).length = M.length * 3 := by
  induction M with
  | nil => rfl
  | cons x M ih => simp only [caps, List.flatMap_cons, List.length_append, List.length_cons] at ih ⊢; rw [ih]; simp [encC]; omega
set_option maxRecDepth 100000 in
set_option maxHeartbeats 2000000 in
theorem sameCaps_eq (L : List Cp) {a b : Option Addr} {ca cb : Nat} (h : Fl w a (caps L)) (k : Fl w b (caps L)) (hn : L.length ≤ 140737488355328) :
    Calls Try.prog 26 #[.slice a L.length ca, .slice b L.length cb] w fun e w' => e = .returned (.bool true) ∧ Below w.heap.size w w' := by
  obtain ⟨n, hnn⟩ : ∃ n, n = L.length := ⟨_, rfl⟩
  have HL := hid hnn
  have H := hid h
  have HK := hid k
  rw [← hnn] at hn ⊢
  clear h k hnn
  go_enter Try.func26, Try.ntmps26
  go_upto_region 4 with fail
  go_loopw [5] (fun v U => ∃ i : Nat, v = .int .i64 (i : Int) ∧ i ≤ n ∧ Below w.heap.size w U) (fun v _ => n - S.ivN v)
  case atStart => exact ⟨0, rfl, Nat.zero_le _, Below.refl _ _⟩
  case round =>
    obtain ⟨i, rfl, hi, hB⟩ := hrel
    have HIn := hid hi
    have HB := hid hB
    clear hi hB
    by_cases hlt : i < n
    · have hd : decide ((i : Int) < (n : Int)) = true := decide_eq_true (by omega)
      obtain ⟨x, hx⟩ : ∃ x, L[i]? = some x := ⟨_, List.getElem?_eq_getElem (by have := HL.out; omega)⟩
      have h0 : 0 < (caps L).length := by rw [caps_len3]; have := HL.out; omega
      obtain ⟨ga, rfl, hca⟩ := H.out h0
      obtain ⟨gb, rfl, hcb⟩ := HK.out h0
      obtain ⟨xo, xh, xl⟩ := x
      have HS : Hid (∀ U, Below wr.heap.size wr U → U.cell? ⟨ga, i * 3, none⟩ = some (.int .i64 xo) ∧ U.cell? ⟨ga, i * 3 + 1, none⟩ = some (.int .u64 (xh : Int)) ∧ U.cell? ⟨ga, i * 3 + 2, none⟩ = some (.int .u64 (xl : Int)) ∧ U.cell? ⟨gb, i * 3, none⟩ = some (.int .i64 xo) ∧ U.cell? ⟨gb, i * 3 + 1, none⟩ = some (.int .u64 (xh : Int)) ∧ U.cell? ⟨gb, i * 3 + 2, none⟩ = some (.int .u64 (xl : Int))) := fun U hU => by
        have hU2 := below_call HB.out hU
        exact ⟨cell_later hU2 (hca _ _ (caps_at L i _ hx 0 (by omega))), cell_later hU2 (hca _ _ (caps_at L i _ hx 1 (by omega))), cell_later hU2 (hca _ _ (caps_at L i _ hx 2 (by omega))), cell_later hU2 (hcb _ _ (caps_at L i _ hx 0 (by omega))), cell_later hU2 (hcb _ _ (caps_at L i _ hx 1 (by omega))), cell_later hU2 (hcb _ _ (caps_at L i _ hx 2 (by omega)))⟩
      clear hca hcb hx h0
      go_upto_region 6 with fail
      go_region_held3 (fun U => U.cell? ⟨ga, i * 3, none⟩ = some (.int .i64 xo) ∧ U.cell? ⟨ga, i * 3 + 1, none⟩ = some (.int .u64 (xh : Int)) ∧ U.cell? ⟨ga, i * 3 + 2, none⟩ = some (.int .u64 (xl : Int)) ∧ U.cell? ⟨gb, i * 3, none⟩ = some (.int .i64 xo) ∧ U.cell? ⟨gb, i * 3 + 1, none⟩ = some (.int .u64 (xh : Int)) ∧ U.cell? ⟨gb, i * 3 + 2, none⟩ = some (.int .u64 (xl : Int))) (first | exact HS.out _ (Below.refl _ _).drew | exact HS.out _ (Below.refl _ _)) (first | fail)
      all_goals (try go_wp2)
      all_goals exact ⟨⟨i + 1, rfl, by omega, (HB.out.drew)⟩, by simp [S.ivN]; omega⟩
    · obtain rfl : i = n := by have := HIn.out; omega
      have hd : decide ((i : Int) < (i : Int)) = false := by simp
      go_wp2
      go_ret
      exact ⟨ret_bool rfl, HB.out⟩
end
end Go.Proofs.Ytffmodpgddecnaa.V
namespace Go.Proofs.Ytffmodpgddecnaa.V
open Go.RowKit
open Go.Proofs.Ytffmodpgddecnaa.H (B64 Cp)
set_option linter.unusedVariables false
set_option linter.unusedSimpArgs false
section
variable {w w' : World}
set_option maxRecDepth 100000 in
set_option maxHeartbeats 2000000 in
theorem sameReply_eq (r : Rep) {a b : Option Addr} {n ca cb : Nat} (h : Fl w a (S.u8s r.data)) (k : Fl w b (S.u8s r.data)) (hn : r.data.length = n) (hb : n ≤ 140737488355328) :
    Calls Try.prog 9 #[rpV r a n ca, rpV r b n cb] w fun e w' => e = .returned (.bool true) ∧ Below w.heap.size w w' := by
  obtain ⟨code, ⟨co, ch, cl⟩, data, num⟩ := r
  simp only [] at h k hn
  subst hn
  have HSb : Hid (∀ U, Below w.heap.size w U → Calls Try.prog 17 #[.slice a data.length ca, .slice b data.length cb] U fun e w' => e = .returned (.bool true) ∧ Below U.heap.size U w') := fun U hU => sameBytes_eq data (h.later hU) (k.later hU) hb
  obtain ⟨W, hW⟩ : ∃ W, W = (w.alloc (Obj.cells (rpL ⟨code, (co, ch, cl), data, num⟩ a data.length ca).toArray 43)).alloc (Obj.cells (rpL ⟨code, (co, ch, cl), data, num⟩ b data.length cb).toArray 43) := ⟨_, rfl⟩
  have HB : Hid (Below w.heap.size w W) := by rw [hW]; exact below2 _ _ _
  have hX1 : R.Bx W w.heap.size (rpL ⟨code, (co, ch, cl), data, num⟩ a data.length ca) := by rw [hW]; exact R.Bx.later (below1 _ _) (R.Bx.new w _ _)
  have hX2 : R.Bx W (w.heap.size + 1) (rpL ⟨code, (co, ch, cl), data, num⟩ b data.length cb) := by
    rw [hW]
    have := R.Bx.new (w.alloc (Obj.cells (rpL ⟨code, (co, ch, cl), data, num⟩ a data.length ca).toArray 43)) (rpL ⟨code, (co, ch, cl), data, num⟩ b data.length cb) 43
    rwa [World.size_alloc] at this
  have x0 := hX1.cell 0 rfl
  have x1 := hX1.cell 1 rfl
  have x2 := hX1.cell 2 rfl
  have x3 := hX1.cell 3 rfl
  have x4 := hX1.cell 4 rfl
  have x5 := hX1.cell 5 rfl
  have y0 := hX2.cell 0 rfl
  have y1 := hX2.cell 1 rfl
  have y2 := hX2.cell 2 rfl
  have y3 := hX2.cell 3 rfl
  have y4 := hX2.cell 4 rfl
  have y5 := hX2.cell 5 rfl
  have HW := hid hW
  clear h k hX1 hX2 hW hb
  generalize data.length = m at *
  go_enter Try.func9, Try.ntmps9
  go_upto_region 1 with fail
  have hW := HW.out
  simp only [rpL] at hW
  rw [← hW]
  clear hW
  go_wp2_with (first | (go_at_call 17; refine (HSb.out W HB.out).mono ?_; rintro e w1 ⟨rfl, hb1⟩; have HB1 := hid hb1; clear hb1))
  go_ret
  exact ⟨ret_bool (by simp), below_call HB.out HB1.out⟩
end
end Go.Proofs.Ytffmodpgddecnaa.V
