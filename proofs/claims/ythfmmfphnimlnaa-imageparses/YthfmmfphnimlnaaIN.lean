import Derived.Test.YthfmmfphnimlnaaIM
namespace Go.Proofs.Ythfmmfphnimlnaa
open Go.RowKit
set_option linter.unusedVariables false
set_option linter.unusedSimpArgs false
/-! The form, purely. -/
def capL (x : Cp) : List Nat := leL x.o.toNat 8 ++ leL x.l 8 ++ leL x.h 8
def parN (p : Int) : Nat := if p = -1 then 65535 else p.toNat
def tkL (t : Tk) : List Nat := capL t.c ++ (leL t.r.toNat 1 ++ leL (parN t.p) 2)
def obL (o : Ob) : List Nat := leL o.id.toNat 8 ++ (leL o.b.length 2 ++ o.b)
def pcsL (p : Pc) : List Nat := leL p.n.toNat 2 ++ (leL p.l.length 1 ++ p.l.flatMap capL)
def Cf.l10 (c : Cf) : List Int := [c.w, c.o, c.p, c.e, c.q, c.r, c.l, c.s, c.y, c.k]
def cfL (c : Cf) : List Nat := c.l10.flatMap (fun n => leL n.toNat 2)
def mkB : List Nat := [115, 101, 115, 97, 109, 101, 32, 49]
def osL (O : List Ob) : List Nat := leL O.length 2 ++ O.flatMap obL
def tsL (T : List Tk) : List Nat := leL T.length 2 ++ T.flatMap tkL
def psL (P : List Pc) : List Nat := leL P.length 2 ++ P.flatMap pcsL
def layL (c : Cf) (s : St) : List Nat := mkB ++ (cfL c ++ (leL s.nx.toNat 8 ++ (leL s.px.toNat 4 ++ (leL s.ta.toNat 2 ++ (osL s.O ++ (tsL s.T ++ psL s.P))))))
/-! Rows. -/
theorem p8 (v : Nat) (hv : v < 256) (w : World) : Calls Try.prog 72 #[.slice none 0 0, .int .u8 (v : Int)] w fun e w' => ∃ a c, e = .returned (.slice a 1 c) ∧ Own w' w.heap.size a 1 c (leL v 1) ∧ Below w.heap.size w w' := by
  refine (put8 none 0 0 [] v w hv (row_nil w) (by omega)).mono ?_
  rintro e w' ⟨a, c, rfl, h, hb⟩
  exact ⟨a, c, rfl, by simpa using h, hb⟩
theorem p16 (v : Nat) (hv : v < 65536) (w : World) : Calls Try.prog 70 #[.slice none 0 0, .int .u16 (v : Int)] w fun e w' => ∃ a c, e = .returned (.slice a 2 c) ∧ Own w' w.heap.size a 2 c (leL v 2) ∧ Below w.heap.size w w' := by
  refine (put16 none 0 0 [] v w hv (row_nil w) (by omega)).mono ?_
  rintro e w' ⟨a, c, rfl, h, hb⟩
  exact ⟨a, c, rfl, by simpa using h, hb⟩
theorem p32 (v : Nat) (hv : v < 4294967296) (w : World) : Calls Try.prog 41 #[.slice none 0 0, .int .u32 (v : Int)] w fun e w' => ∃ a c, e = .returned (.slice a 4 c) ∧ Own w' w.heap.size a 4 c (leL v 4) ∧ Below w.heap.size w w' := by
  refine (put32 none 0 0 [] v w hv (row_nil w) (by omega)).mono ?_
  rintro e w' ⟨a, c, rfl, h, hb⟩
  exact ⟨a, c, rfl, by simpa using h, hb⟩
theorem p64 (v : Nat) (hv : v < 18446744073709551616) (w : World) : Calls Try.prog 40 #[.slice none 0 0, .int .u64 (v : Int)] w fun e w' => ∃ a c, e = .returned (.slice a 8 c) ∧ Own w' w.heap.size a 8 c (leL v 8) ∧ Below w.heap.size w w' := by
  refine (put64 none 0 0 [] v w hv (row_nil w) (by omega)).mono ?_
  rintro e w' ⟨a, c, rfl, h, hb⟩
  exact ⟨a, c, rfl, by simpa using h, hb⟩
theorem layTwo_any (n : Nat) (hn : n < 65536) (w : World) : Calls Try.prog 42 #[.int .i64 (n : Int)] w fun e w' => ∃ a c, e = .returned (.slice a 2 c) ∧ Own w' w.heap.size a 2 c (leL n 2) ∧ Below w.heap.size w w' := by
  have e1 : IntKind.u16.wrap (n : Int) = (n : Int) := by rw [IntKind.wrap_u16]; omega
  have HP := hid (p16 n hn)
  clear hn
  go_enter Try.func42, Try.ntmps42
  go_wp2_with (first | (go_at_call 70; refine (HP.out _).mono ?_; rintro e w2 ⟨a, c, rfl, h, hb⟩))
  go_ret
  exact ⟨a, c, rfl, h, hb⟩
theorem layParent_any (p : Int) (hp : p = -1 ∨ 0 ≤ p ∧ p < 65535) (w : World) : Calls Try.prog 73 #[.int .i64 p] w fun e w' => ∃ a c, e = .returned (.slice a 2 c) ∧ Own w' w.heap.size a 2 c (leL (parN p) 2) ∧ Below w.heap.size w w' := by
  by_cases h1 : p = -1
  · subst h1
    have HP : Hid (∀ U, Calls Try.prog 42 #[.int .i64 65535] U fun e w' => ∃ a c, e = .returned (.slice a 2 c) ∧ Own w' U.heap.size a 2 c (leL (parN (-1)) 2) ∧ Below U.heap.size U w') := layTwo_any 65535 (by omega)
    clear hp
    go_enter Try.func73, Try.ntmps73
    go_wp2_with (first | (go_at_call 42; refine (HP.out _).mono ?_; rintro e w2 ⟨a, c, rfl, h, hb⟩))
    go_ret
    exact ⟨a, c, rfl, h, hb⟩
  · obtain ⟨n, rfl⟩ : ∃ n : Nat, p = n := ⟨p.toNat, by omega⟩
    have e1 : ((n : Int) == -1) = false := by simp
    have e2 : parN (n : Int) = n := by unfold parN; rw [if_neg h1]; simp
    rw [e2]
    have HP := hid (layTwo_any n (by omega))
    clear hp e2 h1
    go_enter Try.func73, Try.ntmps73
    go_wp2_with (first | (go_at_call 42; refine (HP.out _).mono ?_; rintro e w2 ⟨a, c, rfl, h, hb⟩))
    go_ret
    exact ⟨a, c, rfl, h, hb⟩
theorem capL_len (x : Cp) : (capL x).length = 24 := by simp [capL, leL_length]
theorem layCap_any (x : Cp) (hx : x.ok) (h0 : 0 ≤ x.o) (h1 : x.o ≤ MI) (w : World) : Calls Try.prog 71 #[.agg #[.int .i64 x.o, .int .u64 (x.h : Int), .int .u64 (x.l : Int)]] w fun e w' => ∃ a c, e = .returned (.slice a 24 c) ∧ Own w' w.heap.size a 24 c (capL x) ∧ Below w.heap.size w w' := by
  have hMI : MI = 4611686018427387904 := rfl
  have e1 : pcE x.o = 0 := by unfold pcE; rw [if_neg (by omega)]
  have e2 : pcL [] x.o x.h x.l = capL x := by unfold pcL; rw [if_pos e1]; unfold capL; simp
  have hB := below1 w (Obj.cells #[.int .i64 x.o, .int .u64 (x.h : Int), .int .u64 (x.l : Int)] 65)
  have HP := hid (fun U => putCap_any none 0 0 [] x.o x.h x.l U hx.1 hx.2 (row_nil U) (by omega))
  rw [e1, e2] at HP
  have HB := hid hB
  clear hx h0 h1 hB e1 e2 hMI
  go_enter Try.func71, Try.ntmps71
  go_wp2_with (first | (go_at_call 89; refine (HP.out _).mono ?_; rintro e w2 ⟨a, n, c, rfl, h, hb⟩))
  go_ret
  have hl := h.len
  rw [capL_len] at hl
  subst hl
  exact ⟨a, c, rfl, h.mono HB.out.size, below_call HB.out hb⟩
end Go.Proofs.Ythfmmfphnimlnaa
