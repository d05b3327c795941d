import Derived.Test.YthlojdclncikiaaR1
namespace Go.Proofs.Ythlojdclncikiaa
open Go.RowKit
set_option linter.unusedVariables false
set_option linter.unusedSimpArgs false
variable {w w' : World} {base r s n k : Nat} {pa : Option Addr} {cap : Nat} {L : List Pu} {E : Nat} {hi mi : Int}

set_option maxRecDepth 100000 in
theorem rturn_any (h : Rc w base r s n k pa cap L E hi mi) (hE : E < 256) :
    Calls Try.prog 18 #[.pointer (some ⟨r, 0, none⟩)] w fun x w' => x = .returned (.tuple #[]) ∧ Rc w' base r s n k none 0 [] ((E + 1) % 256) hi mi ∧ Wq w w' r pa none := by
  obtain ⟨h1, hq⟩ := h.put (pb := none) (c := 0) (M := []) (But.refl _ _) (fun j hj => by obtain ⟨_, e, _⟩ := hj; cases e) (Ow.nil _ _ _ _)
  have x6 := h.cl.1
  have f6 := h.cl.2
  have x3 := h.ce.1
  have f3 := h.ce.2
  have hw : IntKind.i64.wrap ((E : Int) + 1) = ((E + 1 : Nat) : Int) := by rw [IntKind.wrap_i64]; omega
  have HR1 := hid (h1.set_e (E + 1))
  have HR2 := hid ((h1.set_e (E + 1)).set_e 0)
  have HQ := hid hq
  clear h h1 hq
  by_cases hl : E < 255
  · have hd : decide ((E : Int) + 1 > 255) = false := decide_eq_false (by omega)
    have HM : Hid ((E + 1) % 256 = E + 1) := Nat.mod_eq_of_lt (by omega)
    go_enter Try.func18, Try.ntmps18
    go_wp2
    exact bodyPost_end (by simp [results, Try.results18, go_sem]) rfl ⟨rfl, by rw [HM.out]; exact HR1.out, ⟨HQ.out.but.setCell (p := ⟨r, 3, none⟩) (.inl rfl) _, HQ.out.on⟩⟩
  · obtain rfl : E = 255 := by omega
    go_enter Try.func18, Try.ntmps18
    go_wp2
    exact bodyPost_end (by simp [results, Try.results18, go_sem]) rfl ⟨rfl, HR2.out, ⟨(HQ.out.but.setCell (p := ⟨r, 3, none⟩) (.inl rfl) _).setCell (p := ⟨r, 3, none⟩) (.inl rfl) _, HQ.out.on⟩⟩
def GtRel (W : World) (L : List Pu) (c : Cp) (t : Value) (w : World) : Prop :=
  ∃ i : Nat, i ≤ L.length ∧ t = .int .i64 (i : Int) ∧ (∀ j x, j < i → L[j]? = some x → x.1 ≠ c) ∧ Below W.heap.size W w
theorem gets_at {c : Cp} {i : Nat} {x : Pu} (hx : L[i]? = some x) (hc : x.1 = c) (hn : ∀ j y, j < i → L[j]? = some y → y.1 ≠ c) : getS L c = (x.2, true) := by
  obtain ⟨hi, e⟩ := List.getElem?_eq_some_iff.1 hx
  have : L.find? (fun y => y.1 = c) = some x := List.find?_eq_some_iff_getElem.2 ⟨by simpa using hc, i, hi, e, fun j hj => by
    have := hn j _ hj (List.getElem?_eq_getElem (by omega))
    simpa using this⟩
  unfold getS
  rw [this]
theorem gets_none {c : Cp} (hn : ∀ j y, j < L.length → L[j]? = some y → y.1 ≠ c) : getS L c = (0, false) := by
  have : L.find? (fun y => y.1 = c) = none := List.find?_eq_none.2 (fun y hy => by
    obtain ⟨j, hj, e⟩ := List.mem_iff_getElem.1 hy
    have := hn j y hj (by rw [← e]; exact List.getElem?_eq_getElem hj)
    simpa using this)
  unfold getS
  rw [this]
/-- What a Get leaves. -/
def Gp (w : World) (base r s n k : Nat) (pa : Option Addr) (cap : Nat) (L : List Pu) (E : Nat) (hi mi : Int) (c : Cp) (x : Ending) (w' : World) : Prop :=
  x = .returned (.tuple #[.int .i64 (getS L c).1, .bool (getS L c).2]) ∧ Rc w' base r s n k pa cap L E (if (getS L c).2 then wrap64 (hi + 1) else hi) (if (getS L c).2 then mi else wrap64 (mi + 1)) ∧ But (fun j => j = r) w w'
set_option maxRecDepth 100000 in
set_option maxHeartbeats 1000000 in
theorem rget_walk (h : Rc w base r s n k pa cap L E hi mi) (c : Cp) (hL : L.length ≤ 64) :
    Calls Try.prog 16 #[.pointer (some ⟨r, 0, none⟩), .agg #[.int .i64 c.1, .int .u64 (c.2.1 : Int), .int .u64 (c.2.2 : Int)]] w (Gp w base r s n k pa cap L E hi mi c) := by
  have HB1 := hid (below1 w (Obj.cells #[.int .i64 c.1, .int .u64 (c.2.1 : Int), .int .u64 (c.2.2 : Int)] 34))
  have HH := hid (h.later HB1.out)
  have HC : Hid (∀ U : World, Below (w.alloc (Obj.cells #[.int .i64 c.1, .int .u64 (c.2.1 : Int), .int .u64 (c.2.2 : Int)] 34)).heap.size (w.alloc (Obj.cells #[.int .i64 c.1, .int .u64 (c.2.1 : Int), .int .u64 (c.2.2 : Int)] 34)) U → Cel U w.heap.size 0 c) := fun U hU => ⟨cell_later hU (by simp [go_sem]), cell_later hU (by simp [go_sem]), cell_later hU (by simp [go_sem])⟩
  clear h
  go_enter Try.func16, Try.ntmps16
  go_upto_region 2 with fail
  generalize w.alloc (Obj.cells #[.int .i64 c.1, .int .u64 (c.2.1 : Int), .int .u64 (c.2.2 : Int)] 34) = w1 at HB1 HC HH
  go_loopw [6] (GtRel w1 L c) (fun t _ => L.length - (intOf t).toNat)
  case atStart => exact ⟨0, by omega, rfl, fun j x hj => absurd hj (Nat.not_lt_zero _), Below.refl _ _⟩
  case round =>
    obtain ⟨i, hi_, rfl, hno, hB⟩ := hrel
    have HNo := hid hno
    have HB := hid hB
    have HR := hid (HH.out.later hB)
    have x6 := HR.out.cl.1
    clear hno hB
    by_cases hlt : i < L.length
    · have hd : decide ((i : Int) < (L.length : Int)) = true := decide_eq_true (by omega)
      obtain ⟨x, hx⟩ : ∃ x, L[i]? = some x := ⟨_, List.getElem?_eq_getElem hlt⟩
      obtain ⟨b, rfl, hcu⟩ := HR.out.at_ hx
      obtain ⟨u0, u1, u2, u3⟩ := hcu
      obtain ⟨y0, y1, y2⟩ := HC.out _ HB.out
      simp only [Nat.zero_add] at y1 y2
      have heq := fun W => eqlCp x.1 c W
      have HX := hid hx
      clear hx
      by_cases hc : x.1 = c
      · have hd1 : decide (x.1 = c) = true := decide_eq_true hc
        simp only [hd1] at heq
        have HG := hid (gets_at HX.out hc HNo.out)
        have hne := HR.out.ap b ⟨_, rfl, rfl⟩
        go_upto_region 4 with fail
        go_quiet (fail)
        have x4 := HR.out.ch.1
        have f4 := HR.out.ch.2
        have HS := hid ((HR.out.later (below_drewN (Below.refl _ _) nq)).set_h (wrap64 (hi + 1)))
        go_wp2
        exact bodyPost_ret (v := .tuple #[.int .i64 x.2, .bool true]) (by simp [results, Try.results16, go_sem]) rfl (by unfold Gp; rw [HG.out]; exact ⟨rfl, HS.out, (But.of (S := fun j => j = r) (below_drewN (below_call HB1.out HB.out) nq)).setCell (p := ⟨r, 4, none⟩) rfl _⟩)
      · have hd1 : decide (x.1 = c) = false := decide_eq_false hc
        simp only [hd1] at heq
        go_upto_region 4 with fail
        go_quiet (fail)
        go_wp2
        refine ⟨⟨i + 1, by omega, by go_num, fun j y hj hy => ?_, below_drewN HB.out _⟩, by simp [intOf]; omega⟩
        rcases Nat.lt_or_ge j i with h3 | h3
        · exact HNo.out j y h3 hy
        · obtain rfl : j = i := by omega
          rw [HX.out] at hy
          cases hy
          exact hc
    · have hd : decide ((i : Int) < (L.length : Int)) = false := decide_eq_false (by omega)
      obtain rfl : i = L.length := by omega
      have HG := hid (gets_none (c := c) (fun j y hj hy => HNo.out j y hj hy))
      have x5 := HR.out.cm.1
      have f5 := HR.out.cm.2
      have HS := hid (HR.out.set_m (wrap64 (mi + 1)))
      go_wp2
      exact bodyPost_ret (v := .tuple #[.int .i64 0, .bool false]) (by simp [results, Try.results16, go_sem]) rfl (by unfold Gp; rw [HG.out]; exact ⟨rfl, HS.out, (But.of (S := fun j => j = r) (below_call HB1.out HB.out)).setCell (p := ⟨r, 5, none⟩) rfl _⟩)
theorem rget_any (h : Rc w base r s n k pa cap L E hi mi) (c : Cp) (hL : L.length ≤ 64) :
    Calls Try.prog 16 #[.pointer (some ⟨r, 0, none⟩), .agg #[.int .i64 c.1, .int .u64 (c.2.1 : Int), .int .u64 (c.2.2 : Int)]] w fun x w' => x = .returned (.tuple #[.int .i64 (getS L c).1, .bool (getS L c).2]) ∧ Rc w' base r s n k pa cap L E (if (getS L c).2 then wrap64 (hi + 1) else hi) (if (getS L c).2 then mi else wrap64 (mi + 1)) ∧ But (fun j => j = r) w w' := rget_walk h c hL
end Go.Proofs.Ythlojdclncikiaa
