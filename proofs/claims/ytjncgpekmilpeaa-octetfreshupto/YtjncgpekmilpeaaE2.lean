import Derived.Test.YtjncgpekmilpeaaE1
namespace Go.Proofs.Ytjncgpekmilpeaa
open Go.RowKit
set_option linter.unusedVariables false

/-- Something laid. -/
structure It where
  kd : Int
  v : Nat
  o : Int
  hi : Nat
  lo : Nat
  a : Option Addr
  n : Nat
  c : Nat
  L : List Nat
def It.cs (t : It) : List Value := [.int .i64 t.kd, .int .u64 (t.v : Int), .int .i64 t.o, .int .u64 (t.hi : Int), .int .u64 (t.lo : Int), .slice t.a t.n t.c]
/-- What is asked of it: its parts are in their bounds, its object number too, and its row can be read. -/
structure It.Good (t : It) (w : World) : Prop where
  v : t.v < 18446744073709551616
  hi : t.hi < 18446744073709551616
  lo : t.lo < 18446744073709551616
  row : Row w t.a t.n t.c t.L
structure It.Laid (t : It) : Prop where
  o0 : 0 ≤ t.o
  o1 : t.o ≤ 4611686018427387904
theorem It.Good.later {t : It} {w w' : World} (h : t.Good w) (hb : Below w.heap.size w w') : t.Good w' := ⟨h.v, h.hi, h.lo, h.row.later hb⟩
def It.enc (t : It) : List Nat :=
  if t.kd % 7 = 0 then leL (t.v % 256) 1 else if t.kd % 7 = 1 then leL (t.v % 65536) 2 else if t.kd % 7 = 2 then leL (t.v % 4294967296) 4 else if t.kd % 7 = 3 then leL t.v 8
  else if t.kd % 7 = 4 then leL t.lo 8 ++ leL t.hi 8 else if t.kd % 7 = 5 then leL t.o.toNat 8 ++ leL t.lo 8 ++ leL t.hi 8 else t.L
theorem enc0 {t : It} (h : t.kd % 7 = 0) : t.enc = leL (t.v % 256) 1 := by unfold It.enc; rw [if_pos h]
theorem enc1 {t : It} (h : t.kd % 7 = 1) : t.enc = leL (t.v % 65536) 2 := by unfold It.enc; rw [if_neg (by omega), if_pos h]
theorem enc2 {t : It} (h : t.kd % 7 = 2) : t.enc = leL (t.v % 4294967296) 4 := by unfold It.enc; rw [if_neg (by omega), if_neg (by omega), if_pos h]
theorem enc3 {t : It} (h : t.kd % 7 = 3) : t.enc = leL t.v 8 := by unfold It.enc; rw [if_neg (by omega), if_neg (by omega), if_neg (by omega), if_pos h]
theorem enc4 {t : It} (h : t.kd % 7 = 4) : t.enc = leL t.lo 8 ++ leL t.hi 8 := by unfold It.enc; rw [if_neg (by omega), if_neg (by omega), if_neg (by omega), if_neg (by omega), if_pos h]
theorem enc5 {t : It} (h : t.kd % 7 = 5) : t.enc = leL t.o.toNat 8 ++ leL t.lo 8 ++ leL t.hi 8 := by unfold It.enc; rw [if_neg (by omega), if_neg (by omega), if_neg (by omega), if_neg (by omega), if_neg (by omega), if_pos h]
theorem enc6 {t : It} (h : t.kd % 7 = 6) : t.enc = t.L := by unfold It.enc; rw [if_neg (by omega), if_neg (by omega), if_neg (by omega), if_neg (by omega), if_neg (by omega), if_neg (by omega)]

def box6 (w : World) (t : It) : World := w.alloc (.cells #[.int .i64 t.kd, .int .u64 (t.v : Int), .int .i64 t.o, .int .u64 (t.hi : Int), .int .u64 (t.lo : Int), .slice t.a t.n t.c] 51)
/-- An item's cells. -/
structure IBox (w : World) (b o : Nat) (t : It) : Prop where
  c0 : w.cell? ⟨b, o, none⟩ = some (.int .i64 t.kd)
  c1 : w.cell? ⟨b, o + 1, none⟩ = some (.int .u64 (t.v : Int))
  c2 : w.cell? ⟨b, o + 2, none⟩ = some (.int .i64 t.o)
  c3 : w.cell? ⟨b, o + 3, none⟩ = some (.int .u64 (t.hi : Int))
  c4 : w.cell? ⟨b, o + 4, none⟩ = some (.int .u64 (t.lo : Int))
  c5 : w.cell? ⟨b, o + 5, none⟩ = some (.slice t.a t.n t.c)
theorem IBox.new (w : World) (t : It) : IBox (w.alloc (.cells #[.int .i64 t.kd, .int .u64 (t.v : Int), .int .i64 t.o, .int .u64 (t.hi : Int), .int .u64 (t.lo : Int), .slice t.a t.n t.c] 51)) w.heap.size 0 t :=
  ⟨by simp [go_sem], by simp [go_sem], by simp [go_sem], by simp [go_sem], by simp [go_sem], by simp [go_sem]⟩
theorem IBox.but {S : Nat → Prop} {w w' : World} {b o : Nat} {t : It} (hb : But S w w') (h : IBox w b o t) (hn : ¬ S b) : IBox w' b o t := by
  have hk := hb.block b (World.block_lt_of_cell? _ _ h.c0) hn
  exact ⟨by rw [World.cell?_of_block (w := w) hk]; exact h.c0, by rw [World.cell?_of_block (w := w) hk]; exact h.c1, by rw [World.cell?_of_block (w := w) hk]; exact h.c2, by rw [World.cell?_of_block (w := w) hk]; exact h.c3, by rw [World.cell?_of_block (w := w) hk]; exact h.c4, by rw [World.cell?_of_block (w := w) hk]; exact h.c5⟩
theorem IBox.later {w w' : World} {b o : Nat} {t : It} (hb : Below w.heap.size w w') (h : IBox w b o t) : IBox w' b o t := h.but (S := fun _ => False) (But.of hb) (fun h => h)

theorem tmod7 (k : Int) : (0 ≤ k.tmod 7 → k.tmod 7 = k % 7) ∧ (k.tmod 7 < 0 → k.tmod 7 + 7 = k % 7) := by
  by_cases h : 0 ≤ k
  · have e := Int.tmod_eq_emod_of_nonneg (b := 7) h
    rw [e]
    omega
  · obtain ⟨m, rfl⟩ : ∃ m : Int, k = -m := ⟨-k, by omega⟩
    have e : (-m).tmod 7 = -(m % 7) := by rw [Int.neg_tmod, Int.tmod_eq_emod_of_nonneg (by omega)]
    rw [e]
    omega
theorem tmod7_lt (k : Int) : -7 ≤ k.tmod 7 ∧ k.tmod 7 < 7 := by
  obtain ⟨h1, h2⟩ := tmod7 k
  obtain ⟨r, hr⟩ : ∃ r, r = k.tmod 7 := ⟨_, rfl⟩
  rw [← hr] at h1 h2 ⊢
  clear hr
  rcases Int.lt_or_le r 0 with h | h
  · have e := h2 h
    constructor <;> omega
  · have e := h1 h
    constructor <;> omega

set_option maxRecDepth 100000 in
set_option maxHeartbeats 2000000 in
theorem kind_any (t : It) (w : World) :
    Calls Try.prog 48 #[.agg #[.int .i64 t.kd, .int .u64 (t.v : Int), .int .i64 t.o, .int .u64 (t.hi : Int), .int .u64 (t.lo : Int), .slice t.a t.n t.c]] w fun e w' => e = .returned (.int .i64 (t.kd % 7)) ∧ Below w.heap.size w w' := by
  obtain ⟨h1, h2⟩ := tmod7 t.kd
  have h3 := tmod7_lt t.kd
  by_cases hn : t.kd.tmod 7 < 0
  · have hd : decide (t.kd.tmod 7 < 0) = true := decide_eq_true hn
    have HE : Hid (t.kd.tmod 7 + 7 = t.kd % 7) := h2 hn
    have ew : IntKind.i64.wrap (t.kd.tmod 7 + 7) = t.kd.tmod 7 + 7 := by rw [IntKind.wrap_i64]; omega
    clear h1 h2
    go_enter Try.func48, Try.ntmps48
    go_wp2
    go_ret
    exact ⟨ret_int HE.out, below1 _ _⟩
  · have hd : decide (t.kd.tmod 7 < 0) = false := decide_eq_false hn
    have HE : Hid (t.kd.tmod 7 = t.kd % 7) := h1 (by omega)
    clear h1 h2
    go_enter Try.func48, Try.ntmps48
    go_wp2
    go_ret
    exact ⟨ret_int HE.out, below1 _ _⟩

theorem pcE_ok {t : It} (h : t.Laid) : pcE t.o = 0 := by
  unfold pcE
  rw [if_neg (by have := h.o0; have := h.o1; omega)]
set_option maxRecDepth 100000 in
set_option maxHeartbeats 2000000 in
theorem lay_0 (a : Option Addr) (n cap : Nat) (M : List Nat) (t : It) (w : World) (h : Row w a n cap M) (ht : t.Good w) (hl : t.Laid) (hr : n + t.n + 24 ≤ 140737488355328) (hk : t.kd % 7 = 0) :
    Calls Try.prog 22 #[.slice a n cap, .agg #[.int .i64 t.kd, .int .u64 (t.v : Int), .int .i64 t.o, .int .u64 (t.hi : Int), .int .u64 (t.lo : Int), .slice t.a t.n t.c]] w fun e w' => ∃ a' n' cap', e = .returned (.slice a' n' cap') ∧ Own w' w.heap.size a' n' cap' (M ++ t.enc) ∧ Below w.heap.size w w' := by
  have HR : Hid (n + t.n + 24 ≤ 140737488355328) := hr
  have R0 := h.alloc (Obj.cells #[.int .i64 t.kd, .int .u64 (t.v : Int), .int .i64 t.o, .int .u64 (t.hi : Int), .int .u64 (t.lo : Int), .slice t.a t.n t.c] 51)
  have R1 := ht.row.alloc (Obj.cells #[.int .i64 t.kd, .int .u64 (t.v : Int), .int .i64 t.o, .int .u64 (t.hi : Int), .int .u64 (t.lo : Int), .slice t.a t.n t.c] 51)
  have X := IBox.new w t
  have hb0 := below1 w (Obj.cells #[.int .i64 t.kd, .int .u64 (t.v : Int), .int .i64 t.o, .int .u64 (t.hi : Int), .int .u64 (t.lo : Int), .slice t.a t.n t.c] 51)
  have HG : Hid (t.v < 18446744073709551616 ∧ t.hi < 18446744073709551616 ∧ t.lo < 18446744073709551616) := ⟨ht.v, ht.hi, ht.lo⟩
  have x0 := X.c0
  have x1 := X.c1
  have x2 := X.c2
  have x3 := X.c3
  have x4 := X.c4
  have x5 := X.c5
  have he := enc0 hk
  rw [he]
  clear h ht hr he
  obtain ⟨q, hq⟩ : ∃ q, q = t.v % 256 := ⟨_, rfl⟩
  have ew : IntKind.u8.wrap (t.v : Int) = (q : Int) := by rw [IntKind.wrap_u8]; omega
  have hql : q < 256 := by omega
  rw [← hq]
  clear hq
  go_enter Try.func22, Try.ntmps22
  go_upto_region 2 with (first | (go_at_call 48; refine (kind_any t _).mono ?_; rintro e w1 ⟨rfl, hb⟩; rw [hk]; replace hb0 := below_call hb0 hb; replace R0 := R0.later hb; replace R1 := R1.later hb; replace X := X.later hb; clear hb x0 x1 x2 x3 x4 x5))
  have x1 := X.c1
  have x2 := X.c2
  have x3 := X.c3
  have x4 := X.c4
  have x5 := X.c5
  go_wp2_with (first | (go_at_call 12; refine (put8 _ _ _ M q _ hql R0 (by have := HR.out; omega)).mono ?_; rintro e w2 ⟨a2, c2, rfl, P, hb⟩))
  go_ret
  exact ⟨_, _, _, rfl, P.mono hb0.size, below_call hb0 hb⟩

set_option maxRecDepth 100000 in
set_option maxHeartbeats 2000000 in
theorem lay_1 (a : Option Addr) (n cap : Nat) (M : List Nat) (t : It) (w : World) (h : Row w a n cap M) (ht : t.Good w) (hl : t.Laid) (hr : n + t.n + 24 ≤ 140737488355328) (hk : t.kd % 7 = 1) :
    Calls Try.prog 22 #[.slice a n cap, .agg #[.int .i64 t.kd, .int .u64 (t.v : Int), .int .i64 t.o, .int .u64 (t.hi : Int), .int .u64 (t.lo : Int), .slice t.a t.n t.c]] w fun e w' => ∃ a' n' cap', e = .returned (.slice a' n' cap') ∧ Own w' w.heap.size a' n' cap' (M ++ t.enc) ∧ Below w.heap.size w w' := by
  have HR : Hid (n + t.n + 24 ≤ 140737488355328) := hr
  have R0 := h.alloc (Obj.cells #[.int .i64 t.kd, .int .u64 (t.v : Int), .int .i64 t.o, .int .u64 (t.hi : Int), .int .u64 (t.lo : Int), .slice t.a t.n t.c] 51)
  have R1 := ht.row.alloc (Obj.cells #[.int .i64 t.kd, .int .u64 (t.v : Int), .int .i64 t.o, .int .u64 (t.hi : Int), .int .u64 (t.lo : Int), .slice t.a t.n t.c] 51)
  have X := IBox.new w t
  have hb0 := below1 w (Obj.cells #[.int .i64 t.kd, .int .u64 (t.v : Int), .int .i64 t.o, .int .u64 (t.hi : Int), .int .u64 (t.lo : Int), .slice t.a t.n t.c] 51)
  have HG : Hid (t.v < 18446744073709551616 ∧ t.hi < 18446744073709551616 ∧ t.lo < 18446744073709551616) := ⟨ht.v, ht.hi, ht.lo⟩
  have x0 := X.c0
  have x1 := X.c1
  have x2 := X.c2
  have x3 := X.c3
  have x4 := X.c4
  have x5 := X.c5
  have he := enc1 hk
  rw [he]
  clear h ht hr he
  obtain ⟨q, hq⟩ : ∃ q, q = t.v % 65536 := ⟨_, rfl⟩
  have ew : IntKind.u16.wrap (t.v : Int) = (q : Int) := by rw [IntKind.wrap_u16]; omega
  have hql : q < 65536 := by omega
  rw [← hq]
  clear hq
  go_enter Try.func22, Try.ntmps22
  go_upto_region 2 with (first | (go_at_call 48; refine (kind_any t _).mono ?_; rintro e w1 ⟨rfl, hb⟩; rw [hk]; replace hb0 := below_call hb0 hb; replace R0 := R0.later hb; replace R1 := R1.later hb; replace X := X.later hb; clear hb x0 x1 x2 x3 x4 x5))
  have x1 := X.c1
  have x2 := X.c2
  have x3 := X.c3
  have x4 := X.c4
  have x5 := X.c5
  go_wp2_with (first | (go_at_call 13; refine (put16 _ _ _ M q _ hql R0 (by have := HR.out; omega)).mono ?_; rintro e w2 ⟨a2, c2, rfl, P, hb⟩))
  go_ret
  exact ⟨_, _, _, rfl, P.mono hb0.size, below_call hb0 hb⟩

set_option maxRecDepth 100000 in
set_option maxHeartbeats 2000000 in
theorem lay_2 (a : Option Addr) (n cap : Nat) (M : List Nat) (t : It) (w : World) (h : Row w a n cap M) (ht : t.Good w) (hl : t.Laid) (hr : n + t.n + 24 ≤ 140737488355328) (hk : t.kd % 7 = 2) :
    Calls Try.prog 22 #[.slice a n cap, .agg #[.int .i64 t.kd, .int .u64 (t.v : Int), .int .i64 t.o, .int .u64 (t.hi : Int), .int .u64 (t.lo : Int), .slice t.a t.n t.c]] w fun e w' => ∃ a' n' cap', e = .returned (.slice a' n' cap') ∧ Own w' w.heap.size a' n' cap' (M ++ t.enc) ∧ Below w.heap.size w w' := by
  have HR : Hid (n + t.n + 24 ≤ 140737488355328) := hr
  have R0 := h.alloc (Obj.cells #[.int .i64 t.kd, .int .u64 (t.v : Int), .int .i64 t.o, .int .u64 (t.hi : Int), .int .u64 (t.lo : Int), .slice t.a t.n t.c] 51)
  have R1 := ht.row.alloc (Obj.cells #[.int .i64 t.kd, .int .u64 (t.v : Int), .int .i64 t.o, .int .u64 (t.hi : Int), .int .u64 (t.lo : Int), .slice t.a t.n t.c] 51)
  have X := IBox.new w t
  have hb0 := below1 w (Obj.cells #[.int .i64 t.kd, .int .u64 (t.v : Int), .int .i64 t.o, .int .u64 (t.hi : Int), .int .u64 (t.lo : Int), .slice t.a t.n t.c] 51)
  have HG : Hid (t.v < 18446744073709551616 ∧ t.hi < 18446744073709551616 ∧ t.lo < 18446744073709551616) := ⟨ht.v, ht.hi, ht.lo⟩
  have x0 := X.c0
  have x1 := X.c1
  have x2 := X.c2
  have x3 := X.c3
  have x4 := X.c4
  have x5 := X.c5
  have he := enc2 hk
  rw [he]
  clear h ht hr he
  obtain ⟨q, hq⟩ : ∃ q, q = t.v % 4294967296 := ⟨_, rfl⟩
  have ew : IntKind.u32.wrap (t.v : Int) = (q : Int) := by rw [IntKind.wrap_u32]; omega
  have hql : q < 4294967296 := by omega
  rw [← hq]
  clear hq
  go_enter Try.func22, Try.ntmps22
  go_upto_region 2 with (first | (go_at_call 48; refine (kind_any t _).mono ?_; rintro e w1 ⟨rfl, hb⟩; rw [hk]; replace hb0 := below_call hb0 hb; replace R0 := R0.later hb; replace R1 := R1.later hb; replace X := X.later hb; clear hb x0 x1 x2 x3 x4 x5))
  have x1 := X.c1
  have x2 := X.c2
  have x3 := X.c3
  have x4 := X.c4
  have x5 := X.c5
  go_wp2_with (first | (go_at_call 14; refine (put32 _ _ _ M q _ hql R0 (by have := HR.out; omega)).mono ?_; rintro e w2 ⟨a2, c2, rfl, P, hb⟩))
  go_ret
  exact ⟨_, _, _, rfl, P.mono hb0.size, below_call hb0 hb⟩

set_option maxRecDepth 100000 in
set_option maxHeartbeats 2000000 in
theorem lay_3 (a : Option Addr) (n cap : Nat) (M : List Nat) (t : It) (w : World) (h : Row w a n cap M) (ht : t.Good w) (hl : t.Laid) (hr : n + t.n + 24 ≤ 140737488355328) (hk : t.kd % 7 = 3) :
    Calls Try.prog 22 #[.slice a n cap, .agg #[.int .i64 t.kd, .int .u64 (t.v : Int), .int .i64 t.o, .int .u64 (t.hi : Int), .int .u64 (t.lo : Int), .slice t.a t.n t.c]] w fun e w' => ∃ a' n' cap', e = .returned (.slice a' n' cap') ∧ Own w' w.heap.size a' n' cap' (M ++ t.enc) ∧ Below w.heap.size w w' := by
  have HR : Hid (n + t.n + 24 ≤ 140737488355328) := hr
  have R0 := h.alloc (Obj.cells #[.int .i64 t.kd, .int .u64 (t.v : Int), .int .i64 t.o, .int .u64 (t.hi : Int), .int .u64 (t.lo : Int), .slice t.a t.n t.c] 51)
  have R1 := ht.row.alloc (Obj.cells #[.int .i64 t.kd, .int .u64 (t.v : Int), .int .i64 t.o, .int .u64 (t.hi : Int), .int .u64 (t.lo : Int), .slice t.a t.n t.c] 51)
  have X := IBox.new w t
  have hb0 := below1 w (Obj.cells #[.int .i64 t.kd, .int .u64 (t.v : Int), .int .i64 t.o, .int .u64 (t.hi : Int), .int .u64 (t.lo : Int), .slice t.a t.n t.c] 51)
  have HG : Hid (t.v < 18446744073709551616 ∧ t.hi < 18446744073709551616 ∧ t.lo < 18446744073709551616) := ⟨ht.v, ht.hi, ht.lo⟩
  have x0 := X.c0
  have x1 := X.c1
  have x2 := X.c2
  have x3 := X.c3
  have x4 := X.c4
  have x5 := X.c5
  have he := enc3 hk
  rw [he]
  clear h ht hr he
  go_enter Try.func22, Try.ntmps22
  go_upto_region 2 with (first | (go_at_call 48; refine (kind_any t _).mono ?_; rintro e w1 ⟨rfl, hb⟩; rw [hk]; replace hb0 := below_call hb0 hb; replace R0 := R0.later hb; replace R1 := R1.later hb; replace X := X.later hb; clear hb x0 x1 x2 x3 x4 x5))
  have x1 := X.c1
  have x2 := X.c2
  have x3 := X.c3
  have x4 := X.c4
  have x5 := X.c5
  go_wp2_with (first | (go_at_call 15; refine (put64 _ _ _ M t.v _ HG.out.1 R0 (by have := HR.out; omega)).mono ?_; rintro e w2 ⟨a2, c2, rfl, P, hb⟩))
  go_ret
  exact ⟨_, _, _, rfl, P.mono hb0.size, below_call hb0 hb⟩

set_option maxRecDepth 100000 in
set_option maxHeartbeats 2000000 in
theorem lay_4 (a : Option Addr) (n cap : Nat) (M : List Nat) (t : It) (w : World) (h : Row w a n cap M) (ht : t.Good w) (hl : t.Laid) (hr : n + t.n + 24 ≤ 140737488355328) (hk : t.kd % 7 = 4) :
    Calls Try.prog 22 #[.slice a n cap, .agg #[.int .i64 t.kd, .int .u64 (t.v : Int), .int .i64 t.o, .int .u64 (t.hi : Int), .int .u64 (t.lo : Int), .slice t.a t.n t.c]] w fun e w' => ∃ a' n' cap', e = .returned (.slice a' n' cap') ∧ Own w' w.heap.size a' n' cap' (M ++ t.enc) ∧ Below w.heap.size w w' := by
  have HR : Hid (n + t.n + 24 ≤ 140737488355328) := hr
  have R0 := h.alloc (Obj.cells #[.int .i64 t.kd, .int .u64 (t.v : Int), .int .i64 t.o, .int .u64 (t.hi : Int), .int .u64 (t.lo : Int), .slice t.a t.n t.c] 51)
  have R1 := ht.row.alloc (Obj.cells #[.int .i64 t.kd, .int .u64 (t.v : Int), .int .i64 t.o, .int .u64 (t.hi : Int), .int .u64 (t.lo : Int), .slice t.a t.n t.c] 51)
  have X := IBox.new w t
  have hb0 := below1 w (Obj.cells #[.int .i64 t.kd, .int .u64 (t.v : Int), .int .i64 t.o, .int .u64 (t.hi : Int), .int .u64 (t.lo : Int), .slice t.a t.n t.c] 51)
  have HG : Hid (t.v < 18446744073709551616 ∧ t.hi < 18446744073709551616 ∧ t.lo < 18446744073709551616) := ⟨ht.v, ht.hi, ht.lo⟩
  have x0 := X.c0
  have x1 := X.c1
  have x2 := X.c2
  have x3 := X.c3
  have x4 := X.c4
  have x5 := X.c5
  have he := enc4 hk
  rw [he]
  clear h ht hr he
  rw [← List.append_assoc]
  go_enter Try.func22, Try.ntmps22
  go_upto_region 2 with (first | (go_at_call 48; refine (kind_any t _).mono ?_; rintro e w1 ⟨rfl, hb⟩; rw [hk]; replace hb0 := below_call hb0 hb; replace R0 := R0.later hb; replace R1 := R1.later hb; replace X := X.later hb; clear hb x0 x1 x2 x3 x4 x5))
  have x1 := X.c1
  have x2 := X.c2
  have x3 := X.c3
  have x4 := X.c4
  have x5 := X.c5
  go_wp2_with (first | (go_at_call 16; refine (putWord_any _ _ _ M t.hi t.lo _ HG.out.2.1 HG.out.2.2 R0 (by have := HR.out; omega)).mono ?_; rintro e w2 ⟨a2, c2, rfl, P, hb⟩))
  go_ret
  exact ⟨_, _, _, rfl, P.mono hb0.size, below_call hb0 hb⟩

set_option maxRecDepth 100000 in
set_option maxHeartbeats 2000000 in
theorem lay_5 (a : Option Addr) (n cap : Nat) (M : List Nat) (t : It) (w : World) (h : Row w a n cap M) (ht : t.Good w) (hl : t.Laid) (hr : n + t.n + 24 ≤ 140737488355328) (hk : t.kd % 7 = 5) :
    Calls Try.prog 22 #[.slice a n cap, .agg #[.int .i64 t.kd, .int .u64 (t.v : Int), .int .i64 t.o, .int .u64 (t.hi : Int), .int .u64 (t.lo : Int), .slice t.a t.n t.c]] w fun e w' => ∃ a' n' cap', e = .returned (.slice a' n' cap') ∧ Own w' w.heap.size a' n' cap' (M ++ t.enc) ∧ Below w.heap.size w w' := by
  have HR : Hid (n + t.n + 24 ≤ 140737488355328) := hr
  have R0 := h.alloc (Obj.cells #[.int .i64 t.kd, .int .u64 (t.v : Int), .int .i64 t.o, .int .u64 (t.hi : Int), .int .u64 (t.lo : Int), .slice t.a t.n t.c] 51)
  have R1 := ht.row.alloc (Obj.cells #[.int .i64 t.kd, .int .u64 (t.v : Int), .int .i64 t.o, .int .u64 (t.hi : Int), .int .u64 (t.lo : Int), .slice t.a t.n t.c] 51)
  have X := IBox.new w t
  have hb0 := below1 w (Obj.cells #[.int .i64 t.kd, .int .u64 (t.v : Int), .int .i64 t.o, .int .u64 (t.hi : Int), .int .u64 (t.lo : Int), .slice t.a t.n t.c] 51)
  have HG : Hid (t.v < 18446744073709551616 ∧ t.hi < 18446744073709551616 ∧ t.lo < 18446744073709551616) := ⟨ht.v, ht.hi, ht.lo⟩
  have x0 := X.c0
  have x1 := X.c1
  have x2 := X.c2
  have x3 := X.c3
  have x4 := X.c4
  have x5 := X.c5
  have he := enc5 hk
  rw [he]
  clear h ht hr he
  go_enter Try.func22, Try.ntmps22
  go_upto_region 2 with (first | (go_at_call 48; refine (kind_any t _).mono ?_; rintro e w1 ⟨rfl, hb⟩; rw [hk]; replace hb0 := below_call hb0 hb; replace R0 := R0.later hb; replace R1 := R1.later hb; replace X := X.later hb; clear hb x0 x1 x2 x3 x4 x5))
  have x1 := X.c1
  have x2 := X.c2
  have x3 := X.c3
  have x4 := X.c4
  have x5 := X.c5
  have hpe := pcE_ok hl
  have hpl : pcL M t.o t.hi t.lo = M ++ (leL t.o.toNat 8 ++ leL t.lo 8 ++ leL t.hi 8) := by unfold pcL; rw [if_pos hpe]; simp
  go_wp2_with (first | (go_at_call 10; refine (putCap_any _ _ _ M t.o t.hi t.lo _ HG.out.2.1 HG.out.2.2 R0 (by have := HR.out; omega)).mono ?_; rintro e w2 ⟨a2, n2, c2, rfl, P, hb⟩; rw [hpl] at P; rw [hpe]))
  go_ret
  exact ⟨_, _, _, rfl, P.mono hb0.size, below_call hb0 hb⟩

set_option maxRecDepth 100000 in
set_option maxHeartbeats 2000000 in
theorem lay_6 (a : Option Addr) (n cap : Nat) (M : List Nat) (t : It) (w : World) (h : Row w a n cap M) (ht : t.Good w) (hl : t.Laid) (hr : n + t.n + 24 ≤ 140737488355328) (hk : t.kd % 7 = 6) :
    Calls Try.prog 22 #[.slice a n cap, .agg #[.int .i64 t.kd, .int .u64 (t.v : Int), .int .i64 t.o, .int .u64 (t.hi : Int), .int .u64 (t.lo : Int), .slice t.a t.n t.c]] w fun e w' => ∃ a' n' cap', e = .returned (.slice a' n' cap') ∧ Own w' w.heap.size a' n' cap' (M ++ t.enc) ∧ Below w.heap.size w w' := by
  have HR : Hid (n + t.n + 24 ≤ 140737488355328) := hr
  have R0 := h.alloc (Obj.cells #[.int .i64 t.kd, .int .u64 (t.v : Int), .int .i64 t.o, .int .u64 (t.hi : Int), .int .u64 (t.lo : Int), .slice t.a t.n t.c] 51)
  have R1 := ht.row.alloc (Obj.cells #[.int .i64 t.kd, .int .u64 (t.v : Int), .int .i64 t.o, .int .u64 (t.hi : Int), .int .u64 (t.lo : Int), .slice t.a t.n t.c] 51)
  have X := IBox.new w t
  have hb0 := below1 w (Obj.cells #[.int .i64 t.kd, .int .u64 (t.v : Int), .int .i64 t.o, .int .u64 (t.hi : Int), .int .u64 (t.lo : Int), .slice t.a t.n t.c] 51)
  have HG : Hid (t.v < 18446744073709551616 ∧ t.hi < 18446744073709551616 ∧ t.lo < 18446744073709551616) := ⟨ht.v, ht.hi, ht.lo⟩
  have x0 := X.c0
  have x1 := X.c1
  have x2 := X.c2
  have x3 := X.c3
  have x4 := X.c4
  have x5 := X.c5
  have he := enc6 hk
  rw [he]
  clear h ht hr he
  go_enter Try.func22, Try.ntmps22
  go_upto_region 2 with (first | (go_at_call 48; refine (kind_any t _).mono ?_; rintro e w1 ⟨rfl, hb⟩; rw [hk]; replace hb0 := below_call hb0 hb; replace R0 := R0.later hb; replace R1 := R1.later hb; replace X := X.later hb; clear hb x0 x1 x2 x3 x4 x5))
  have x1 := X.c1
  have x2 := X.c2
  have x3 := X.c3
  have x4 := X.c4
  have x5 := X.c5
  go_wp2_with (first | (go_at_call 17; refine (join2 _ _ _ _ _ _ M t.L _ _ rfl R0 R1 (by have := HR.out; omega)).mono ?_; rintro e w2 ⟨a2, c2, rfl, P, hb⟩))
  go_ret
  exact ⟨_, _, _, rfl, P.mono hb0.size, below_call hb0 hb⟩

theorem lay_any (a : Option Addr) (n cap : Nat) (M : List Nat) (t : It) (w : World) (h : Row w a n cap M) (ht : t.Good w) (hl : t.Laid) (hr : n + t.n + 24 ≤ 140737488355328) :
    Calls Try.prog 22 #[.slice a n cap, .agg #[.int .i64 t.kd, .int .u64 (t.v : Int), .int .i64 t.o, .int .u64 (t.hi : Int), .int .u64 (t.lo : Int), .slice t.a t.n t.c]] w fun e w' => ∃ a' n' cap', e = .returned (.slice a' n' cap') ∧ Own w' w.heap.size a' n' cap' (M ++ t.enc) ∧ Below w.heap.size w w' := by
  have : t.kd % 7 = 0 ∨ t.kd % 7 = 1 ∨ t.kd % 7 = 2 ∨ t.kd % 7 = 3 ∨ t.kd % 7 = 4 ∨ t.kd % 7 = 5 ∨ t.kd % 7 = 6 := by omega
  rcases this with hk | hk | hk | hk | hk | hk | hk
  · exact lay_0 a n cap M t w h ht hl hr hk
  · exact lay_1 a n cap M t w h ht hl hr hk
  · exact lay_2 a n cap M t w h ht hl hr hk
  · exact lay_3 a n cap M t w h ht hl hr hk
  · exact lay_4 a n cap M t w h ht hl hr hk
  · exact lay_5 a n cap M t w h ht hl hr hk
  · exact lay_6 a n cap M t w h ht hl hr hk
end Go.Proofs.Ytjncgpekmilpeaa
