import Derived.Test.YticgammbjcdobaaNM
namespace Go.Proofs.Yticgammbjcdobaa
open Go.RowKit
set_option linter.unusedVariables false
set_option linter.unusedSimpArgs false
abbrev lkL (s kd b t : Int) (c : Cp) : List Value := [.int .i64 s, .int .i64 kd, .int .i64 b, .int .i64 t, .int .i64 c.o, .int .u64 (c.h : Int), .int .u64 (c.l : Int)]
theorem infoL7 : (Try.prog.info? 46).map (fun i => (i.zero, i.size, i.bytes)) = some (some (.agg #[.int .i64 0, .int .i64 0, .int .i64 0, .int .i64 0, .int .i64 0, .int .u64 0, .int .u64 0]), 7, 56) := by kernel_rfl
theorem one7 (s kd b t : Int) (c : Cp) : ∀ u ∈ lkL s kd b t c, u.oneCell' = true := by
  intro u hu
  simp only [List.mem_cons, List.not_mem_nil, or_false] at hu
  rcases hu with rfl | rfl | rfl | rfl | rfl | rfl | rfl <;> rfl
set_option maxRecDepth 100000 in
set_option maxHeartbeats 2000000 in
theorem rev1 (a : Option Addr) (c : Nat) (w : World) : Calls Try.prog 45 #[.slice a 1 c] w fun e w' => e = .returned (.tuple #[]) ∧ w' = w := by
  go_enter Try.func45, Try.ntmps45
  go_wp2
  go_loopw [2, 3] (fun i j U => i = .int .i64 0 ∧ j = .int .i64 0 ∧ U = w) (fun _ _ _ => 0)
  case atStart => exact ⟨rfl, rfl, rfl⟩
  case round =>
    obtain ⟨rfl, rfl, rfl⟩ := hrel
    go_wp2
    exact bodyPost_end (v := .tuple #[]) (by simp [results, Try.results45, go_sem]) rfl ⟨rfl, rfl⟩
set_option maxRecDepth 100000 in
set_option maxHeartbeats 2000000 in
/-- The chain of a telling that came of none. -/
theorem chain1 (kt : Nat) (s kd b t : Int) (c : Cp) (w : World) (h : Bx w kt (tlL s kd b t c none)) :
    Calls Try.prog 28 #[.pointer (some ⟨kt, 0, none⟩)] w fun e w' => ∃ a' c', e = .returned (.slice a' 1 c') ∧ Ow w' w.heap.size 46 7 a' 1 c' (lkL s kd b t c) ∧ Below w.heap.size w w' := by
  obtain ⟨a', c', w1, hr, ho, hb, hn⟩ := ow_snoc 42 46 _ 7 56 Try.underlying42 infoL7 rfl (by omega) (w := w) (base := w.heap.size) (cs := lkL s kd b t c) (Ow.nil w w.heap.size _ _) rfl (one7 _ _ _ _ _) (Nat.le_refl _) (by omega) (by omega)
  have hB : Below w.heap.size w w1 := But.below (Below.refl _ _) hb (fun k hk => by obtain ⟨x, hx, _⟩ := hk; cases hx)
  have HR : Hid ((Builtin.append_ #[42, 42] 42 #[.slice none 0 0, .slice (some ⟨w.heap.size, 0, none⟩) 1 1]).run Try.prog (w.alloc (Obj.cells #[.int .i64 s, .int .i64 kd, .int .i64 b, .int .i64 t, .int .i64 c.o, .int .u64 (c.h : Int), .int .u64 (c.l : Int)] 46)) = .ok (.slice a' 1 c') w1) := hr
  have HO : Hid (Ow w1 w.heap.size 46 7 a' 1 c' (lkL s kd b t c)) := ho
  have HB := hid hB
  have HX := hid (h.later hB)
  have x0 := h.cell 0 rfl
  have x1 := h.cell 1 rfl
  have x2 := h.cell 2 rfl
  have x3 := h.cell 3 rfl
  have x4 := h.cell 4 rfl
  have x5 := h.cell 5 rfl
  have x6 := h.cell 6 rfl
  clear hr ho hb hn hB h
  go_enter Try.func28, Try.ntmps28
  go_wp2
  go_loopw [0, 3] (fun p o U => (p = .pointer (some ⟨kt, 0, none⟩) ∧ o = .slice none 0 0 ∧ U = w) ∨ (p = .pointer none ∧ o = .slice a' 1 c' ∧ U = w1)) (fun p _ _ => match p with | .pointer (some _) => 1 | _ => 0)
  case atStart => exact .inl ⟨rfl, rfl, rfl⟩
  case round =>
    rcases hrel with ⟨rfl, rfl, rfl⟩ | ⟨rfl, rfl, rfl⟩
    · go_wp2_with (first | (at_builtin; refine wpList_append_known rfl _ _ 42 rfl _ _ rfl rfl _ w1 HR.out ?_; (have x7 := HX.out.cell 7 rfl)))
      refine ⟨.inr ?_, ?_⟩ <;> simp
    · clear x0 x1 x2 x3 x4 x5 x6
      go_wp2_with (first | (go_at_call 45; refine (rev1 _ _ _).mono ?_; rintro e w2 ⟨rfl, rfl⟩))
      go_ret
      exact ⟨a', c', rfl, HO.out, HB.out⟩
set_option maxRecDepth 100000 in
set_option maxHeartbeats 2000000 in
/-- The way of what was created. -/
theorem way1 (m : Bm) (p : Int) (c : Cp) (kt : Nat) (s kd b t : Int) (w : World) (h : Bw w m) (hc : c.far) (hF : hasF c = true) (hp : I64 p) (hg : Gt m.T p (fmV (frm c)) (some (.pointer (some ⟨kt, 0, none⟩)))) (hx : Bx w kt (tlL s kd b t c none)) :
    Calls Try.prog 10 #[.pointer (some ⟨m.g, 0, none⟩), .int .i64 p, capV c] w fun e w' => ∃ a' c', e = .returned (.tuple #[.slice a' 1 c', .bool true]) ∧ Ow w' w.heap.size 46 7 a' 1 c' (lkL s kd b t c) ∧ Below w.heap.size w w' := by
  obtain ⟨W, hW⟩ : ∃ W, W = w.alloc (Obj.cells #[.int .i64 c.o, .int .u64 (c.h : Int), .int .u64 (c.l : Int)] 31) := ⟨_, rfl⟩
  have hB : Below w.heap.size w W := by rw [hW]; exact below1 _ _
  have HX0 : Hid (Bx W w.heap.size [.int .i64 c.o, .int .u64 (c.h : Int), .int .u64 (c.l : Int)]) := by rw [hW]; exact Bx.new w [.int .i64 c.o, .int .u64 (c.h : Int), .int .u64 (c.l : Int)] _
  have c4 := HX0.out.cell 0 rfl
  have c5 := HX0.out.cell 1 rfl
  have c6 := HX0.out.cell 2 rfl
  have HT := hid (telling_any m p c _ W (h.later hB) hc hF hp hg)
  simp only [Option.getD_some, Option.isSome_some] at HT
  have HC := hid (fun (U : World) (hU : Below w.heap.size w U) => chain1 kt s kd b t c U (hx.later hU))
  have HB := hid hB
  have HW := hid hW
  clear h hB hW hg hF hc hx
  go_enter Try.func10, Try.ntmps10
  go_upto_region 1 with fail
  rw [← HW.out]
  go_wp2_with (first | (go_at_call 27; refine HT.out.mono ?_; rintro e w2 ⟨rfl, hb2⟩; have HB2 := hid (below_call HB.out hb2); clear hb2) | (go_at_call 28; refine (HC.out _ HB2.out).mono ?_; rintro e w3 ⟨a', c', rfl, ho, hb3⟩; have HO := hid ho; have HB3 := hid (below_call HB2.out hb3); clear ho hb3))
  exact bodyPost_ret (v := .tuple #[.slice a' 1 c', .bool true]) (by simp [results, Try.results10, go_sem]) rfl ⟨a', c', rfl, HO.out.mono HB2.out.size, HB3.out⟩
def ivN : Value → Nat | .int _ q => q.toNat | _ => 0
theorem capsL_at {l : List Cp} {i : Nat} {c : Cp} (h : l[i]? = some c) : (capsL l)[i * 3]? = some (.int .i64 c.o) ∧ (capsL l)[i * 3 + 1]? = some (.int .u64 (c.h : Int)) ∧ (capsL l)[i * 3 + 2]? = some (.int .u64 (c.l : Int)) := by
  induction l generalizing i with
  | nil => simp at h
  | cons x l ih =>
    have e : capsL (x :: l) = encC x ++ capsL l := by simp [capsL]
    rw [e]
    cases i with
    | zero =>
      simp at h
      subst h
      simp [encC]
    | succ i =>
      have := ih (by simpa using h)
      have e3 : (encC x).length = 3 := rfl
      refine ⟨?_, ?_, ?_⟩ <;> rw [List.getElem?_append_right (by rw [e3]; omega), e3]
      · rw [show (i + 1) * 3 - 3 = i * 3 by omega]; exact this.1
      · rw [show (i + 1) * 3 + 1 - 3 = i * 3 + 1 by omega]; exact this.2.1
      · rw [show (i + 1) * 3 + 2 - 3 = i * 3 + 2 by omega]; exact this.2.2
theorem neqC' (a : Int) (b c : Int) (w : World) : (binOp .neq 31 (.agg #[.int .i64 a, .int .u64 b, .int .u64 c]) (.agg #[.int .i64 a, .int .u64 b, .int .u64 c])).run Try.prog w = .ok (.bool false) w := by simp [go_sem]
set_option maxRecDepth 100000 in
set_option maxHeartbeats 2000000 in
/-- Two lists alike. -/
theorem caps_same {w : World} {b1 b2 : Nat} {a a' : Option Addr} {n c c' : Nat} {l : List Cp} (h : Ow w b1 31 3 a n c (capsL l)) (h' : Ow w b2 31 3 a' n c' (capsL l)) (hl : l.length = n) (hn : n ≤ 100000) :
    Calls Try.prog 9 #[.slice a n c, .slice a' n c'] w fun e w' => e = .returned (.bool true) ∧ Below w.heap.size w w' := by
  have HO := hid h
  have HO' := hid h'
  have HL := hid hl
  clear h h' hl
  go_enter Try.func9, Try.ntmps9
  go_wp2
  go_loopw [5] (fun i U => ∃ j : Nat, i = .int .i64 (j : Int) ∧ j ≤ n ∧ Below w.heap.size w U) (fun i _ => n - ivN i)
  case atStart => exact ⟨0, rfl, Nat.zero_le _, Below.refl _ _⟩
  case round =>
    obtain ⟨j, rfl, hj, hB⟩ := hrel
    have HB := hid hB
    by_cases hlt : j < n
    · have hd : decide ((j : Int) < (n : Int)) = true := by simp; omega
      have hjn : (j : Int) < (n : Int) := by omega
      obtain ⟨g, rfl⟩ := HO.out.some_of (by omega)
      obtain ⟨g', rfl⟩ := HO'.out.some_of (by omega)
      have hx : l[j]? = some (l[j]'(by rw [HL.out]; exact hlt)) := List.getElem?_eq_getElem _
      generalize l[j]'(by rw [HL.out]; exact hlt) = x at hx
      obtain ⟨q0, q1, q2⟩ := capsL_at hx
      have r1 := (HO.out.later hB).cells rfl
      have r2 := (HO'.out.later hB).cells rfl
      have x0 := rg_at r1 q0
      have x1 := rg_at r1 q1
      have x2 := rg_at r1 q2
      have y0 := rg_at r2 q0
      have y1 := rg_at r2 q1
      have y2 := rg_at r2 q2
      have hne := neqC' x.o (x.h : Int) (x.l : Int)
      clear r1 r2 q0 q1 q2 hx hB
      go_upto_region 6 with fail
      go_quiet (fail)
      go_wp2
      exact ⟨⟨j + 1, rfl, by omega, below_drewN HB.out _⟩, by simp [ivN]; omega⟩
    · obtain rfl : j = n := by omega
      go_wp2
      go_ret
      exact ⟨rfl, HB.out⟩
end Go.Proofs.Yticgammbjcdobaa
