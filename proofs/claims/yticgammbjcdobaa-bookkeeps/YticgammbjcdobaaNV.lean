import Derived.Test.YticgammbjcdobaaNU
namespace Go.Proofs.Yticgammbjcdobaa
open Go.RowKit
set_option linter.unusedVariables false
set_option linter.unusedSimpArgs false
/-- A telling in memory, and those ahead of it: its own link first. -/
def Tls (w : World) : Option Addr → List Lk → Prop
  | p, [] => p = none
  | p, x :: ls => ∃ k ah, p = some ⟨k, 0, none⟩ ∧ Tyd w k x.s x.kd x.b x.t x.c ah ∧ Tls w ah ls
theorem Tls.later {w w' : World} (hb : Below w.heap.size w w') : ∀ {ls : List Lk} {p : Option Addr}, Tls w p ls → Tls w' p ls
  | [], p, h => h
  | x :: ls, p, ⟨k, ah, e, ht, hr⟩ => ⟨k, ah, e, ht.but (S := fun _ => False) (But.of hb) (fun h => h), hr.later hb⟩
def ChRel (w : World) (ls : List Lk) (p o : Value) (U : World) : Prop :=
  ∃ (i : Nat) (p' : Option Addr) (a : Option Addr) (c : Nat), p = .pointer p' ∧ o = .slice a i c ∧ i ≤ ls.length ∧ Tls U p' (ls.drop i) ∧ Ow U w.heap.size 46 7 a i c (lksL (ls.take i)) ∧ Below w.heap.size w U
def slN : Value → Nat
  | .slice _ n _ => n
  | _ => 0
set_option maxRecDepth 100000 in
set_option maxHeartbeats 2000000 in
theorem chain_any (p : Option Addr) (ls : List Lk) (w : World) (h : Tls w p ls) (hn : ls.length < 100000) :
    Calls Try.prog 28 #[.pointer p] w fun e w' => ∃ a' c', e = .returned (.slice a' ls.length c') ∧ Ow w' w.heap.size 46 7 a' ls.length c' (lksL ls.reverse) ∧ Below w.heap.size w w' := by
  have HT := hid h
  clear h
  go_enter Try.func28, Try.ntmps28
  go_wp2
  go_loopw [0, 3] (ChRel w ls) (fun _ o _ => ls.length - slN o)
  case atStart => exact ⟨0, p, none, 0, rfl, rfl, Nat.zero_le _, HT.out, Ow.nil _ _ _ _, Below.refl _ _⟩
  case round =>
    obtain ⟨i, p', a, c, rfl, rfl, hi, hT, hO, hB⟩ := hrel
    by_cases hlt : i < ls.length
    · obtain ⟨x, hx⟩ : ∃ x, ls[i]? = some x := ⟨_, List.getElem?_eq_getElem hlt⟩
      have hd : ls.drop i = x :: ls.drop (i + 1) := by rw [List.drop_eq_getElem_cons hlt]; congr 1; rw [List.getElem?_eq_getElem hlt] at hx; exact Option.some.inj hx
      rw [hd] at hT
      obtain ⟨k, ah, rfl, ht, hr⟩ := hT
      obtain ⟨s, kd, b, t, cp⟩ := x
      have hbx := ht.bx
      obtain ⟨a', c', w1, hap, ho, hb, hnw⟩ := ow_snoc 42 46 _ 7 56 Try.underlying42 infoL7 rfl (by omega) (cs := lkL s kd b t cp) hO rfl (one7 _ _ _ _ _) hB.size (by omega) (by omega)
      have hB1 : Below w.heap.size w w1 := But.below hB hb (fun j hj => (hO.blk j hj).1)
      have hk1 : ¬ Blk a k := fun hj => by
        obtain ⟨y, hy, e1⟩ := hj
        rcases hO.2 with ⟨h1, h2⟩ | ⟨g, cp, cur, hv, hg, hh, r⟩
        · simp only [Value.slice.injEq] at h1
          rw [hy] at h1
          exact absurd h1.1 (by simp)
        · simp only [Value.slice.injEq] at hv
          rw [hy] at hv
          have e2 := Option.some.inj hv.1
          rw [e2] at e1
          simp only at e1
          subst e1
          have h' : wr.heap[g]? = _ := ht
          rw [hh] at h'
          simp at h'
      have hall : ∀ {q : List Lk} {z : Option Addr}, Tls wr z q → Tls w1 z q := by
        intro q
        induction q with
        | nil => intro z h; exact h
        | cons y q ih =>
          intro z ⟨k2, ah2, e, ht2, hr2⟩
          refine ⟨k2, ah2, e, ht2.but hb (fun hj => ?_), ih hr2⟩
          obtain ⟨y, hy, e1⟩ := hj
          rcases hO.2 with ⟨h1, h2⟩ | ⟨g, cp, cur, hv, hg, hh, r⟩
          · simp only [Value.slice.injEq] at h1
            rw [hy] at h1
            exact absurd h1.1 (by simp)
          · simp only [Value.slice.injEq] at hv
            rw [hy] at hv
            have e2 := Option.some.inj hv.1
            rw [e2] at e1
            simp only at e1
            subst e1
            have h' : wr.heap[g]? = _ := ht2
            rw [hh] at h'
            simp at h'
      have HR : Hid ((Builtin.append_ #[42, 42] 42 #[.slice a i c, .slice (some ⟨wr.heap.size, 0, none⟩) 1 1]).run Try.prog (wr.alloc (Obj.cells #[.int .i64 s, .int .i64 kd, .int .i64 b, .int .i64 t, .int .i64 cp.o, .int .u64 (cp.h : Int), .int .u64 (cp.l : Int)] 46)) = .ok (.slice a' (i + 1) c') w1) := hap
      have HO : Hid (Ow w1 w.heap.size 46 7 a' (i + 1) c' (lksL (ls.take (i + 1)))) := by
        have e : ls.take (i + 1) = ls.take i ++ [⟨s, kd, b, t, cp⟩] := by rw [List.take_add_one, hx]; rfl
        unfold Hid
        rw [e, lksL_app]
        have e2 : lksL [⟨s, kd, b, t, cp⟩] = lkL s kd b t cp := by simp [lksL]
        rw [e2]
        exact ho
      have HB := hid hB1
      have HTr := hid (hall hr)
      have HX := hid (hbx.but hb hk1)
      have x0 := hbx.cell 0 rfl
      have x1 := hbx.cell 1 rfl
      have x2 := hbx.cell 2 rfl
      have x3 := hbx.cell 3 rfl
      have x4 := hbx.cell 4 rfl
      have x5 := hbx.cell 5 rfl
      have x6 := hbx.cell 6 rfl
      clear hr ho hb hnw hB1 hB hO hk1 hall ht hbx hap hd hx HT
      go_wp2_with (first | (at_builtin; refine wpList_append_known rfl _ _ 42 rfl _ _ rfl rfl _ w1 HR.out ?_; (have x7 := HX.out.cell 7 rfl)))
      exact ⟨⟨i + 1, ah, a', c', rfl, rfl, hlt, HTr.out, HO.out, HB.out⟩, by simp [slN]; omega⟩
    · obtain rfl : i = ls.length := by omega
      rw [List.drop_length] at hT
      have hT' : p' = none := hT
      subst hT'
      rw [List.take_length] at hO
      have HRv := hid (rev_any hO (by omega))
      have HO := hid hO
      have HB := hid hB
      clear hO hB hT HT
      go_wp2_with (first | (go_at_call 45; refine HRv.out.mono ?_; rintro e w2 ⟨rfl, ho2, hb2⟩; have HO2 := hid ho2; have HB2 := hid hb2; clear ho2 hb2))
      go_ret
      exact ⟨a, c, rfl, HO2.out, But.below HB.out HB2.out (fun j hj => (HO.out.blk j hj).1)⟩
set_option maxRecDepth 100000 in
set_option maxHeartbeats 2000000 in
/-- The way of what a process was told; none, if it was not. -/
theorem way_any (m : Bm) (p : Int) (c : Cp) (r : Option Value) (a : Option Addr) (ls : List Lk) (w : World) (h : Bw w m) (hc : c.far) (hF : hasF c = true) (hp : I64 p) (hg : Gt m.T p (fmV (frm c)) r) (hr : r.getD (.pointer none) = .pointer a) (ht : Tls w a ls) (hn : ls.length < 100000) :
    Calls Try.prog 10 #[.pointer (some ⟨m.g, 0, none⟩), .int .i64 p, capV c] w fun e w' => ∃ a' c', e = .returned (.tuple #[.slice a' ls.length c', .bool r.isSome]) ∧ Ow w' w.heap.size 46 7 a' ls.length c' (lksL ls.reverse) ∧ Below w.heap.size w w' := by
  obtain ⟨W, hW⟩ : ∃ W, W = w.alloc (Obj.cells #[.int .i64 c.o, .int .u64 (c.h : Int), .int .u64 (c.l : Int)] 31) := ⟨_, rfl⟩
  have hB : Below w.heap.size w W := by rw [hW]; exact below1 _ _
  have HX0 : Hid (Bx W w.heap.size [.int .i64 c.o, .int .u64 (c.h : Int), .int .u64 (c.l : Int)]) := by rw [hW]; exact Bx.new w [.int .i64 c.o, .int .u64 (c.h : Int), .int .u64 (c.l : Int)] _
  have c4 := HX0.out.cell 0 rfl
  have c5 := HX0.out.cell 1 rfl
  have c6 := HX0.out.cell 2 rfl
  have HT := hid (telling_any m p c _ W (h.later hB) hc hF hp hg)
  rw [hr] at HT
  generalize r.isSome = rb at HT ⊢
  have HC := hid (fun (U : World) (hU : Below w.heap.size w U) => chain_any a ls U (ht.later hU) hn)
  have HB := hid hB
  have HW := hid hW
  clear h hB hW hg hF hc ht hr
  go_enter Try.func10, Try.ntmps10
  go_upto_region 1 with fail
  rw [← HW.out]
  go_wp2_with (first | (go_at_call 27; refine HT.out.mono ?_; rintro e w2 ⟨rfl, hb2⟩; have HB2 := hid (below_call HB.out hb2); clear hb2) | (go_at_call 28; refine (HC.out _ HB2.out).mono ?_; rintro e w3 ⟨a', c', rfl, ho, hb3⟩; have HO := hid ho; have HB3 := hid (below_call HB2.out hb3); clear ho hb3))
  exact bodyPost_ret (v := .tuple #[.slice a' ls.length c', .bool rb]) (by simp [results, Try.results10, go_sem]) rfl ⟨a', c', rfl, HO.out.mono HB2.out.size, HB3.out⟩
end Go.Proofs.Yticgammbjcdobaa
