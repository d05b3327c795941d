import Derived.Test.YthlojdclncikiaaR2
namespace Go.Proofs.Ythlojdclncikiaa
open Go.RowKit
set_option linter.unusedVariables false
set_option linter.unusedSimpArgs false
variable {w w' : World} {base r s n k : Nat} {pa : Option Addr} {cap : Nat} {L : List Pu} {E : Nat} {hi mi : Int}

theorem er_same {f : Nat} : (L.take (f + 1)).eraseIdx f = (L.take f).eraseIdx f := by
  rw [List.eraseIdx_of_length_le (l := L.take f) (by rw [List.length_take]; omega), List.eraseIdx_eq_take_drop_succ, List.take_take, List.drop_eq_nil_of_le (by rw [List.length_take]; omega), List.append_nil]
  congr 1
  omega
theorem er_next {f i : Nat} {x : Pu} (hx : L[i]? = some x) (hne : i ≠ f) : (L.take (i + 1)).eraseIdx f = (L.take i).eraseIdx f ++ [x] := by
  have hi := (List.getElem?_eq_some_iff.1 hx).1
  have hl : (L.take i).length = i := by rw [List.length_take]; omega
  have e : L.take (i + 1) = L.take i ++ [x] := by rw [List.take_add_one, hx]; rfl
  rw [e]
  by_cases h : f < i
  · rw [List.eraseIdx_append_of_lt_length (by omega)]
  · rw [List.eraseIdx_of_length_le (l := L.take i) (by omega), List.eraseIdx_of_length_le (by simp; omega)]
theorem er_len {f : Nat} (i : Nat) : ((L.take i).eraseIdx f).length ≤ L.length := Nat.le_trans (List.length_eraseIdx_le _ _) (by rw [List.length_take]; omega)
/-- A put is appended. -/
theorem put_app {w : World} {base : Nat} {a : Option Addr} {cap : Nat} {K : List Pu} {n : Nat} (h : Ow w base 66 4 a n cap (pus K)) (x : Pu) (hb : base ≤ w.heap.size) (hr : n ≤ 1000) :
    ∃ a' c' w', (Builtin.append_ #[51, 51] 51 #[.slice a n cap, .slice (some ⟨w.heap.size, 0, none⟩) 1 1]).run Try.prog (w.alloc (Obj.cells #[.int .i64 x.1.1, .int .u64 (x.1.2.1 : Int), .int .u64 (x.1.2.2 : Int), .int .i64 x.2] 66)) = .ok (.slice a' (n + 1) c') w' ∧ Ow w' base 66 4 a' (n + 1) c' (pus (K ++ [x])) ∧ Gr a a' w w' := by
  have hB := below1 w (Obj.cells #[.int .i64 x.1.1, .int .u64 (x.1.2.1 : Int), .int .u64 (x.1.2.2 : Int), .int .i64 x.2] 66)
  obtain ⟨a', c', w', hrun, hO, hG⟩ := append_k 51 66 _ 4 32 Try.underlying51 info66 rfl (by decide) (by decide) (h.later hB) (Cr.lit w 66 (encU x) (encU_one x)) (Nat.le_trans hb hB.size) (by omega)
  exact ⟨a', c', w', hrun, by rw [pus_snoc]; exact hO, hG.pre hB⟩
def WoRel (W : World) (L : List Pu) (f : Nat) (u t : Value) (w : World) : Prop :=
  ∃ (i : Nat) (a : Option Addr) (c : Nat), i ≤ L.length ∧ u = .slice a ((L.take i).eraseIdx f).length c ∧ t = .int .i64 (i : Int) ∧ Ow w W.heap.size 66 4 a ((L.take i).eraseIdx f).length c (pus ((L.take i).eraseIdx f)) ∧ Below W.heap.size W w
set_option maxRecDepth 100000 in
set_option maxHeartbeats 1000000 in
theorem without_any (h : Rc w base r s n k pa cap L E hi mi) (f : Nat) (hL : L.length ≤ 64) :
    Calls Try.prog 25 #[.pointer (some ⟨r, 0, none⟩), .int .i64 (f : Int)] w fun x w' => ∃ pb c, x = .returned (.tuple #[]) ∧ Rc w' base r s n k pb c (L.eraseIdx f) E hi mi ∧ Wq w w' r pa pb := by
  have HH := hid h
  clear h
  go_enter Try.func25, Try.ntmps25
  go_upto_region 2 with fail
  go_loopw [4, 5] (WoRel w L f) (fun _ t _ => L.length - (intOf t).toNat)
  case atStart => exact ⟨0, none, 0, by omega, by simp, rfl, by simpa [pus] using Ow.nil _ _ _ _, Below.refl _ _⟩
  case round =>
    obtain ⟨i, a, c, hi_, rfl, rfl, hO, hB⟩ := hrel
    have HO := hid hO
    have HB := hid hB
    have HR := hid (HH.out.later hB)
    have x6 := HR.out.cl.1
    have hlen := er_len (L := L) (f := f) i
    clear hO hB
    by_cases hlt : i < L.length
    · have hd : decide ((i : Int) < (L.length : Int)) = true := decide_eq_true (by omega)
      by_cases hne : i = f
      · subst hne
        have HE := hid (er_same (L := L) (f := i))
        go_wp2
        exact ⟨⟨i + 1, a, c, by omega, by rw [HE.out], by go_num, by rw [HE.out]; exact HO.out, HB.out⟩, by simp [intOf]; omega⟩
      · obtain ⟨x, hx⟩ : ∃ x, L[i]? = some x := ⟨_, List.getElem?_eq_getElem hlt⟩
        obtain ⟨b, rfl, hcu⟩ := HR.out.at_ hx
        obtain ⟨u0, u1, u2, u3⟩ := hcu
        have HE := hid (er_next hx hne)
        have hne2 : ((i : Int) == (f : Int)) = false := by simp; omega
        obtain ⟨a5, c5, w5, hrun, hO5, hG5⟩ := put_app HO.out x HB.out.size (by omega)
        have HRUN := hid hrun
        have HO5 := hid hO5
        have HB5 : Hid (Below w.heap.size w w5) := But.below HB.out hG5.but (fun j hj => (HO.out.blk j hj).1)
        clear hrun hO5 hG5 hx
        go_wp2_with (first | (at_builtin; refine wpList_append_known rfl _ _ 51 rfl _ _ rfl rfl _ w5 HRUN.out ?_))
        exact ⟨⟨i + 1, a5, c5, by omega, by rw [HE.out]; simp, by go_num, by rw [HE.out, List.length_append]; exact HO5.out, HB5.out⟩, by simp [intOf]; omega⟩
    · have hd : decide ((i : Int) < (L.length : Int)) = false := decide_eq_false (by omega)
      obtain rfl : i = L.length := by omega
      rw [List.take_length] at HO hlen ⊢
      have f6 := HR.out.cl.2
      have HP := hid (HH.out.put (w' := wr) (M := L.eraseIdx f) (But.of HB.out) (fun j hj => .inr (HO.out.blk j hj).1) (HO.out.mono HH.out.hb))
      go_wp2
      exact bodyPost_end (by simp [results, Try.results25, go_sem]) rfl ⟨a, c, rfl, HP.out.1, HP.out.2⟩
end Go.Proofs.Ythlojdclncikiaa
