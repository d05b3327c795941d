import Derived.Test.YtaffgoacbiedlaaA2
namespace Go.Proofs.Ytaffgoacbiedlaa

/-- A call, by its fields. -/
structure Cl where
  op : Int
  by_ : Int
  size : Int
  obj : Int
  hi : Nat
  lo : Nat
  given : Bool
  rights : Int
  off : Int
  n : Int
  data : List Nat
  index : Int
  gifts : List Int
def clz (op by_ : Int) : Cl := ⟨op, by_, 0, 0, 0, 0, false, 0, 0, 0, [], 0, []⟩

def wi (n a b : Int) : Bool := decide (a ≤ n) && decide (n ≤ b)
theorem wi_iff {n a b : Int} : wi n a b = true ↔ a ≤ n ∧ n ≤ b := by simp [wi]
def sgB (n : Int) : Bool := wi n (-2147483648) 2147483647
def gfB (l : List Int) : Bool := decide (l.length ≤ 255) && l.all (fun g => wi g 0 65535)
def inB (c : Cl) : Bool := wi c.by_ 0 65535 && sgB c.size && sgB c.off && sgB c.n && wi c.obj 0 4611686018427387904 && wi c.rights 0 255 && wi c.index 0 65535 && decide (c.data.length ≤ 1025) && gfB c.gifts
def wmB (c : Cl) : Bool := if c.op = 5 ∨ c.op = 6 then c.given || decide (c.hi = 0 ∧ c.lo = 0) else true
/-- The parts that an op uses: size 0, object 1, word 2, given 3, rights 4, offset 5, count 6, data 7, index 8, gifts 9. -/
def partsL (op : Int) : List Nat :=
  if op = 1 then [0] else if op = 2 ∨ op = 4 ∨ op = 7 then [1, 2] else if op = 3 then [1, 2, 4] else if op = 5 then [1, 3, 2, 5, 6] else if op = 6 then [1, 3, 2, 5, 7] else if op = 8 then [8] else if op = 9 then [9] else []
/-- The call c with the part p of d. -/
def mv (p : Nat) (c d : Cl) : Cl :=
  if p = 0 then { c with size := d.size } else if p = 1 then { c with obj := d.obj } else if p = 2 then { c with hi := d.hi, lo := d.lo } else if p = 3 then { c with given := d.given } else if p = 4 then { c with rights := d.rights }
  else if p = 5 then { c with off := d.off } else if p = 6 then { c with n := d.n } else if p = 7 then { c with data := d.data } else if p = 8 then { c with index := d.index } else if p = 9 then { c with gifts := d.gifts } else c
def wo (c : Cl) (p : Nat) : Cl := mv p c (clz 0 0)
def unu (c : Cl) : Cl := (partsL c.op).foldl wo c
def blB (c : Cl) : Bool := decide (c.size = 0) && decide (c.obj = 0 ∧ c.hi = 0 ∧ c.lo = 0) && !c.given && decide (c.rights = 0) && decide (c.off = 0) && decide (c.n = 0) && decide (c.data.length = 0) && decide (c.index = 0) && decide (c.gifts.length = 0)
/-- Has a call a form? -/
def fm (c : Cl) : Bool := wi c.op 1 10 && inB c && wmB c && blB (unu c)

/-- A number of 32 bits with its sign, laid and read. -/
def sg (n : Int) : Nat := (n % 4294967296).toNat
def sI (v : Nat) : Int := if 2147483648 ≤ v then (v : Int) - 4294967296 else (v : Int)
theorem sI_sg {n : Int} (h : sgB n = true) : sI (sg n) = n := by
  have := wi_iff.1 h
  unfold sI sg
  split <;> omega
theorem sg_sI {v : Nat} (h : v < 4294967296) : sg (sI v) = v := by
  unfold sI sg
  split <;> omega
theorem sg_lt (n : Int) : sg n < 4294967296 := by unfold sg; omega
theorem sgB_sI {v : Nat} (h : v < 4294967296) : sgB (sI v) = true := by
  apply wi_iff.2
  unfold sI
  split <;> omega
def g2 (l : List Int) : List Nat := (l.map (fun g => leL g.toNat 2)).flatten
def layP (c : Cl) (p : Nat) : List Nat :=
  if p = 0 then leL (sg c.size) 4 else if p = 1 then leL c.obj.toNat 8 else if p = 2 then leL c.lo 8 ++ leL c.hi 8 else if p = 3 then leL (if c.given then 1 else 0) 1 else if p = 4 then leL c.rights.toNat 1
  else if p = 5 then leL (sg c.off) 4 else if p = 6 then leL (sg c.n) 4 else if p = 7 then c.data else if p = 8 then leL c.index.toNat 2 else if p = 9 then leL c.gifts.length 1 ++ g2 c.gifts else []
def layA (c : Cl) : List Nat → List Nat
  | [] => []
  | p :: ps => layP c p ++ layA c ps
theorem layA_append (c : Cl) (l m : List Nat) : layA c (l ++ m) = layA c l ++ layA c m := by
  induction l with
  | nil => rfl
  | cons p l ih => simp [layA, ih]
/-- A call's bytes. -/
def ly (c : Cl) : List Nat := leL c.op.toNat 1 ++ leL c.by_.toNat 2 ++ layA c (partsL c.op)

/-! ### Reading -/
def rdN (k m : Nat) (R : List Nat) : Option (Nat × List Nat) := if R.length < k then none else if m < valL (R.take k) then none else some (valL (R.take k), R.drop k)
theorem rdN_some {k m : Nat} {R : List Nat} {v : Nat} {R' : List Nat} (hs : ∀ x ∈ R, x < 256) (h : rdN k m R = some (v, R')) : R = leL v k ++ R' ∧ v ≤ m ∧ v < 256 ^ k := by
  unfold rdN at h
  split at h
  · cases h
  split at h
  · cases h
  · simp only [Option.some.injEq, Prod.mk.injEq] at h
    obtain ⟨rfl, rfl⟩ := h
    have hl : (R.take k).length = k := by simp; omega
    have hv := valL_lt (R.take k) (fun x hx => hs x (List.mem_of_mem_take hx))
    rw [hl] at hv
    refine ⟨?_, by omega, hv⟩
    have : leL (valL (R.take k)) k = R.take k := by
      have key : ∀ (L : List Nat), (∀ x ∈ L, x < 256) → leL (valL L) L.length = L := by
        intro L
        induction L with
        | nil => intro _; rfl
        | cons b r ih =>
          intro hL
          have h1 := ih (fun x hx => hL x (List.mem_cons_of_mem _ hx))
          have h2 := hL b (List.mem_cons_self ..)
          conv => rhs; rw [← h1]
          simp only [leL, List.length_cons, List.range_succ_eq_map, List.map_cons, List.map_map, valL, Nat.pow_zero, Nat.div_one]
          rw [Nat.add_mul_mod_self_left, Nat.mod_eq_of_lt h2]
          congr 1
          apply List.map_congr_left
          intro i _
          simp only [Function.comp]
          rw [Nat.pow_succ, Nat.mul_comm (256 ^ i) 256, ← Nat.div_div_eq_div_mul]
          congr 2
          omega
      have := key (R.take k) (fun x hx => hs x (List.mem_of_mem_take hx))
      rw [hl] at this
      exact this
    rw [this, List.take_append_drop]
theorem take_leL (v k : Nat) (R : List Nat) : (leL v k ++ R).take k = leL v k := List.take_left' (leL_length v k)
theorem drop_leL (v k : Nat) (R : List Nat) : (leL v k ++ R).drop k = R := List.drop_left' (leL_length v k)
theorem rdN_lay {k m v : Nat} (R : List Nat) (hm : v ≤ m) (hv : v < 256 ^ k) : rdN k m (leL v k ++ R) = some (v, R) := by
  unfold rdN
  rw [if_neg (by simp [leL_length]), take_leL, drop_leL, valL_leL, Nat.mod_eq_of_lt hv, if_neg (by omega)]
/-- k numbers of two bytes. -/
def gL (R : List Nat) : Nat → List Int
  | 0 => []
  | k + 1 => gL R k ++ [((valL ((R.drop (2 * k)).take 2) : Nat) : Int)]
theorem gL_length (R : List Nat) : ∀ k, (gL R k).length = k
  | 0 => rfl
  | k + 1 => by simp [gL, gL_length R k]
theorem g2_append (l m : List Int) : g2 (l ++ m) = g2 l ++ g2 m := by simp [g2]
theorem g2_one (g : Int) : g2 [g] = leL g.toNat 2 := by simp [g2]
theorem g2_length (l : List Int) : (g2 l).length = 2 * l.length := by
  induction l with
  | nil => rfl
  | cons g l ih => rw [show g :: l = [g] ++ l from rfl, g2_append, List.length_append, g2_one, ih, leL_length]; simp; omega
theorem gL_take (R : List Nat) (hs : ∀ x ∈ R, x < 256) : ∀ k, 2 * k ≤ R.length → g2 (gL R k) = R.take (2 * k)
  | 0, _ => by simp [g2, gL]
  | k + 1, h => by
    rw [gL, g2_append, gL_take R hs k (by omega), g2_one, Int.toNat_natCast]
    have h1 : rdN 2 65535 (R.drop (2 * k)) = some (valL ((R.drop (2 * k)).take 2), (R.drop (2 * k)).drop 2) := by
      unfold rdN
      have hv := valL_lt ((R.drop (2 * k)).take 2) (fun x hx => hs x (List.mem_of_mem_drop (List.mem_of_mem_take hx)))
      have hl : ((R.drop (2 * k)).take 2).length = 2 := by simp; omega
      rw [hl] at hv
      rw [if_neg (by simp; omega), if_neg (by omega)]
    have h2 := (rdN_some (fun x hx => hs x (List.mem_of_mem_drop hx)) h1).1
    have h3 : leL (valL ((R.drop (2 * k)).take 2)) 2 = (R.drop (2 * k)).take 2 := by
      have := congrArg (List.take 2) h2
      rw [take_leL] at this
      exact this.symm
    rw [h3, show 2 * (k + 1) = 2 * k + 2 by omega, List.take_add]
theorem gL_all (R : List Nat) (hs : ∀ x ∈ R, x < 256) : ∀ k, ∀ g ∈ gL R k, 0 ≤ g ∧ g ≤ 65535
  | 0, _, h => by cases h
  | k + 1, g, h => by
    rcases List.mem_append.1 h with h | h
    · exact gL_all R hs k g h
    · simp only [List.mem_singleton] at h
      subst h
      have hv := valL_lt ((R.drop (2 * k)).take 2) (fun x hx => hs x (List.mem_of_mem_drop (List.mem_of_mem_take hx)))
      have hl : ((R.drop (2 * k)).take 2).length ≤ 2 := by simp; omega
      have : (256 : Nat) ^ ((R.drop (2 * k)).take 2).length ≤ 256 ^ 2 := Nat.pow_le_pow_right (by omega) hl
      omega
theorem gL_lay (R' : List Nat) : ∀ (l : List Int), (∀ g ∈ l, 0 ≤ g ∧ g ≤ 65535) → gL (g2 l ++ R') l.length = l := by
  intro l hl
  have key : ∀ k (R R2 : List Nat), R.take (2 * k) = R2.take (2 * k) → gL R k = gL R2 k := by
    intro k
    induction k with
    | zero => intros; rfl
    | succ k ih =>
      intro R R2 h
      have h1 : R.take (2 * k) = R2.take (2 * k) := by
        have := congrArg (List.take (2 * k)) h
        rw [List.take_take, List.take_take, Nat.min_eq_left (by omega)] at this
        exact this
      have h2 : (R.drop (2 * k)).take 2 = (R2.drop (2 * k)).take 2 := by
        have := congrArg (List.drop (2 * k)) h
        rw [List.drop_take, List.drop_take, show 2 * (k + 1) - 2 * k = 2 by omega] at this
        exact this
      rw [gL, gL, ih _ _ h1, h2]
  have hr : ∀ (l : List Int), (∀ g ∈ l, 0 ≤ g ∧ g ≤ 65535) → gL (g2 l) l.length = l := by
    intro l
    generalize hn : l.length = n
    induction n generalizing l with
    | zero => intro _; have : l = [] := List.eq_nil_of_length_eq_zero hn; subst this; rfl
    | succ n ih =>
      intro h
      obtain ⟨l', g, rfl⟩ : ∃ l' g, l = l' ++ [g] := ⟨l.dropLast, l.getLast (by intro h0; subst h0; simp at hn), (List.dropLast_concat_getLast _).symm⟩
      have hl' : l'.length = n := by simpa using hn
      have hg := h g (by simp)
      have e0 := g2_length l'
      rw [gL, g2_append, g2_one]
      have e1 : gL (g2 l' ++ leL g.toNat 2) n = gL (g2 l') n := key _ _ _ (by rw [List.take_left' (by omega), List.take_of_length_le (by omega)])
      rw [e1, ih l' hl' (fun x hx => h x (List.mem_append_left _ hx)), List.drop_left' (by omega), List.take_of_length_le (by rw [leL_length]; omega), valL_leL, Nat.mod_eq_of_lt (by omega)]
      congr 2
      omega
  conv => rhs; rw [← hr l hl]
  apply key
  have e0 := g2_length l
  rw [List.take_left' (by omega), List.take_of_length_le (by omega)]
/-- Reading one part. -/
def rdP (p : Nat) (c : Cl) (R : List Nat) : Option (Cl × List Nat) :=
  if p = 0 then (rdN 4 4294967295 R).map fun x => ({ c with size := sI x.1 }, x.2)
  else if p = 1 then (rdN 8 4611686018427387904 R).map fun x => ({ c with obj := (x.1 : Int) }, x.2)
  else if p = 2 then (if R.length < 16 then none else some ({ c with hi := valL ((R.drop 8).take 8), lo := valL (R.take 8) }, R.drop 16))
  else if p = 3 then (rdN 1 1 R).map fun x => ({ c with given := decide (x.1 = 1) }, x.2)
  else if p = 4 then (rdN 1 255 R).map fun x => ({ c with rights := (x.1 : Int) }, x.2)
  else if p = 5 then (rdN 4 4294967295 R).map fun x => ({ c with off := sI x.1 }, x.2)
  else if p = 6 then (rdN 4 4294967295 R).map fun x => ({ c with n := sI x.1 }, x.2)
  else if p = 7 then some ({ c with data := R.take (min R.length 1025) }, R.drop (min R.length 1025))
  else if p = 8 then (rdN 2 65535 R).map fun x => ({ c with index := (x.1 : Int) }, x.2)
  else if p = 9 then (match rdN 1 255 R with | none => none | some (k, R1) => if R1.length < 2 * k then none else some ({ c with gifts := gL R1 k }, R1.drop (2 * k)))
  else some (c, R)
def rdA : List Nat → Cl → List Nat → Option (Cl × List Nat)
  | [], c, R => some (c, R)
  | p :: ps, c, R => match rdP p c R with | none => none | some (c', R') => rdA ps c' R'
def rdC (R : List Nat) : Option (Cl × List Nat) :=
  match rdN 1 255 R with
  | none => none
  | some (op, R1) => match rdN 2 65535 R1 with
    | none => none
    | some (b, R2) => rdA (partsL op) (clz op b) R2
/-- The call of bytes. -/
def psC (R : List Nat) : Option Cl := match rdC R with | none => none | some (c, R') => if R' = [] ∧ fm c = true then some c else none

def okP (c : Cl) (p : Nat) : Prop :=
  (p = 0 → sgB c.size = true) ∧ (p = 1 → wi c.obj 0 4611686018427387904 = true) ∧ (p = 2 → c.hi < 18446744073709551616 ∧ c.lo < 18446744073709551616) ∧ (p = 4 → wi c.rights 0 255 = true) ∧ (p = 5 → sgB c.off = true) ∧ (p = 6 → sgB c.n = true) ∧
  (p = 7 → c.data.length ≤ 1025) ∧ (p = 8 → wi c.index 0 65535 = true) ∧ (p = 9 → gfB c.gifts = true)
theorem rdP_lay (p : Nat) (c d : Cl) (R : List Nat) (h : okP d p) (h7 : p = 7 → R = []) (hp : p < 10) : rdP p c (layP d p ++ R) = some (mv p c d, R) := by
  obtain ⟨h0, h1, h2, h4, h5, h6, h7', h8, h9⟩ := h
  rcases (by omega : p = 0 ∨ p = 1 ∨ p = 2 ∨ p = 3 ∨ p = 4 ∨ p = 5 ∨ p = 6 ∨ p = 7 ∨ p = 8 ∨ p = 9) with rfl | rfl | rfl | rfl | rfl | rfl | rfl | rfl | rfl | rfl
  · have := sg_lt d.size
    simp only [rdP, layP, if_true]
    rw [rdN_lay R (by omega) (by omega)]
    simp [mv, sI_sg (h0 rfl)]
  · have := wi_iff.1 (h1 rfl)
    simp only [rdP, layP, if_true, Nat.one_ne_zero, if_false]
    rw [rdN_lay R (by omega) (by omega)]
    simp [mv, Int.toNat_of_nonneg this.1]
  · obtain ⟨e1, e2⟩ := h2 rfl
    simp only [rdP, layP, if_true, if_false, show ¬ (2 : Nat) = 0 by omega, show ¬ (2 : Nat) = 1 by omega]
    rw [if_neg (by simp [leL_length]; omega), List.append_assoc, take_leL, drop_leL, take_leL, valL_leL, valL_leL, Nat.mod_eq_of_lt (by omega), Nat.mod_eq_of_lt (by omega)]
    rw [← List.append_assoc, List.drop_left' (by simp [leL_length])]
    simp [mv]
  · simp only [rdP, layP, if_true, if_false, show ¬ (3 : Nat) = 0 by omega, show ¬ (3 : Nat) = 1 by omega, show ¬ (3 : Nat) = 2 by omega]
    rw [rdN_lay R (by split <;> omega) (by split <;> omega)]
    cases hg : d.given <;> simp [mv, hg]
  · have := wi_iff.1 (h4 rfl)
    simp only [rdP, layP, if_true, if_false, show ¬ (4 : Nat) = 0 by omega, show ¬ (4 : Nat) = 1 by omega, show ¬ (4 : Nat) = 2 by omega, show ¬ (4 : Nat) = 3 by omega]
    rw [rdN_lay R (by omega) (by omega)]
    simp [mv, Int.toNat_of_nonneg this.1]
  · have := sg_lt d.off
    simp only [rdP, layP, if_true, if_false, show ¬ (5 : Nat) = 0 by omega, show ¬ (5 : Nat) = 1 by omega, show ¬ (5 : Nat) = 2 by omega, show ¬ (5 : Nat) = 3 by omega, show ¬ (5 : Nat) = 4 by omega]
    rw [rdN_lay R (by omega) (by omega)]
    simp [mv, sI_sg (h5 rfl)]
  · have := sg_lt d.n
    simp only [rdP, layP, if_true, if_false, show ¬ (6 : Nat) = 0 by omega, show ¬ (6 : Nat) = 1 by omega, show ¬ (6 : Nat) = 2 by omega, show ¬ (6 : Nat) = 3 by omega, show ¬ (6 : Nat) = 4 by omega, show ¬ (6 : Nat) = 5 by omega]
    rw [rdN_lay R (by omega) (by omega)]
    simp [mv, sI_sg (h6 rfl)]
  · have := h7' rfl
    obtain rfl := h7 rfl
    simp only [rdP, layP, if_true, if_false, show ¬ (7 : Nat) = 0 by omega, show ¬ (7 : Nat) = 1 by omega, show ¬ (7 : Nat) = 2 by omega, show ¬ (7 : Nat) = 3 by omega, show ¬ (7 : Nat) = 4 by omega, show ¬ (7 : Nat) = 5 by omega, show ¬ (7 : Nat) = 6 by omega]
    rw [List.append_nil, Nat.min_eq_left (by omega)]
    simp [mv]
  · have := wi_iff.1 (h8 rfl)
    simp only [rdP, layP, if_true, if_false, show ¬ (8 : Nat) = 0 by omega, show ¬ (8 : Nat) = 1 by omega, show ¬ (8 : Nat) = 2 by omega, show ¬ (8 : Nat) = 3 by omega, show ¬ (8 : Nat) = 4 by omega, show ¬ (8 : Nat) = 5 by omega, show ¬ (8 : Nat) = 6 by omega, show ¬ (8 : Nat) = 7 by omega]
    rw [rdN_lay R (by omega) (by omega)]
    simp [mv, Int.toNat_of_nonneg this.1]
  · have := h9 rfl
    simp only [gfB, Bool.and_eq_true, decide_eq_true_eq, List.all_eq_true, wi_iff] at this
    simp only [rdP, layP, if_true, if_false, show ¬ (9 : Nat) = 0 by omega, show ¬ (9 : Nat) = 1 by omega, show ¬ (9 : Nat) = 2 by omega, show ¬ (9 : Nat) = 3 by omega, show ¬ (9 : Nat) = 4 by omega, show ¬ (9 : Nat) = 5 by omega, show ¬ (9 : Nat) = 6 by omega, show ¬ (9 : Nat) = 7 by omega, show ¬ (9 : Nat) = 8 by omega]
    rw [List.append_assoc, rdN_lay _ (by omega) (by omega)]
    have e0 := g2_length d.gifts
    have e1 := gL_lay R d.gifts this.2
    simp only
    rw [if_neg (by simp; omega), e1, List.drop_left' (by omega)]
    simp [mv]
theorem rdP_some {p : Nat} {c c' : Cl} {R R' : List Nat} (hs : ∀ x ∈ R, x < 256) (hp : p < 10) (h : rdP p c R = some (c', R')) : R = layP c' p ++ R' ∧ c' = mv p c c' ∧ (∀ x ∈ R', x < 256) := by
  have hdrop : ∀ k, R' = R.drop k → ∀ x ∈ R', x < 256 := fun k e x hx => hs x (List.mem_of_mem_drop (e ▸ hx))
  have hN : ∀ {k m v : Nat} {Q : List Nat}, rdN k m R = some (v, Q) → ∀ x ∈ Q, x < 256 := fun {k m v Q} e x hx => hs x (by rw [(rdN_some hs e).1]; exact List.mem_append_right _ hx)
  rcases (by omega : p = 0 ∨ p = 1 ∨ p = 2 ∨ p = 3 ∨ p = 4 ∨ p = 5 ∨ p = 6 ∨ p = 7 ∨ p = 8 ∨ p = 9) with rfl | rfl | rfl | rfl | rfl | rfl | rfl | rfl | rfl | rfl
  · simp only [rdP, if_true, Option.map_eq_some_iff, Prod.exists, Prod.mk.injEq] at h
    obtain ⟨v, Q, hv, rfl, rfl⟩ := h
    obtain ⟨h1, h2, h3⟩ := rdN_some hs hv
    exact ⟨by simp [layP, sg_sI (by omega : v < 4294967296)]; exact h1, rfl, hN hv⟩
  · simp only [rdP, if_true, if_false, Nat.one_ne_zero, Option.map_eq_some_iff, Prod.exists, Prod.mk.injEq] at h
    obtain ⟨v, Q, hv, rfl, rfl⟩ := h
    obtain ⟨h1, h2, h3⟩ := rdN_some hs hv
    exact ⟨by simp [layP]; exact h1, rfl, hN hv⟩
  · simp only [rdP, if_true, if_false, show ¬ (2 : Nat) = 0 by omega, show ¬ (2 : Nat) = 1 by omega] at h
    split at h
    · cases h
    · rename_i hl
      simp only [Option.some.injEq, Prod.mk.injEq] at h
      obtain ⟨rfl, rfl⟩ := h
      have a1 : rdN 8 18446744073709551615 R = some (valL (R.take 8), R.drop 8) := by
        have := valL_take_lt R 8 (by omega) hs
        unfold rdN
        rw [if_neg (by omega), if_neg (by omega)]
      have a2 : rdN 8 18446744073709551615 (R.drop 8) = some (valL ((R.drop 8).take 8), (R.drop 8).drop 8) := by
        have := valL_take_lt (R.drop 8) 8 (by simp; omega) (fun x hx => hs x (List.mem_of_mem_drop hx))
        unfold rdN
        rw [if_neg (by simp; omega), if_neg (by omega)]
      have b1 := (rdN_some hs a1).1
      have b2 := (rdN_some (fun x hx => hs x (List.mem_of_mem_drop hx)) a2).1
      rw [List.drop_drop] at b2
      refine ⟨?_, rfl, hdrop _ rfl⟩
      simp only [layP, if_true, if_false, show ¬ (2 : Nat) = 0 by omega, show ¬ (2 : Nat) = 1 by omega]
      rw [List.append_assoc, ← b2]
      exact b1
  · simp only [rdP, if_true, if_false, show ¬ (3 : Nat) = 0 by omega, show ¬ (3 : Nat) = 1 by omega, show ¬ (3 : Nat) = 2 by omega, Option.map_eq_some_iff, Prod.exists, Prod.mk.injEq] at h
    obtain ⟨v, Q, hv, rfl, rfl⟩ := h
    obtain ⟨h1, h2, h3⟩ := rdN_some hs hv
    refine ⟨?_, rfl, hN hv⟩
    rcases (by omega : v = 0 ∨ v = 1) with rfl | rfl
    · simpa [layP] using h1
    · simpa [layP] using h1
  · simp only [rdP, if_true, if_false, show ¬ (4 : Nat) = 0 by omega, show ¬ (4 : Nat) = 1 by omega, show ¬ (4 : Nat) = 2 by omega, show ¬ (4 : Nat) = 3 by omega, Option.map_eq_some_iff, Prod.exists, Prod.mk.injEq] at h
    obtain ⟨v, Q, hv, rfl, rfl⟩ := h
    obtain ⟨h1, h2, h3⟩ := rdN_some hs hv
    exact ⟨by simp [layP]; exact h1, rfl, hN hv⟩
  · simp only [rdP, if_true, if_false, show ¬ (5 : Nat) = 0 by omega, show ¬ (5 : Nat) = 1 by omega, show ¬ (5 : Nat) = 2 by omega, show ¬ (5 : Nat) = 3 by omega, show ¬ (5 : Nat) = 4 by omega, Option.map_eq_some_iff, Prod.exists, Prod.mk.injEq] at h
    obtain ⟨v, Q, hv, rfl, rfl⟩ := h
    obtain ⟨h1, h2, h3⟩ := rdN_some hs hv
    exact ⟨by simp [layP, sg_sI (by omega : v < 4294967296)]; exact h1, rfl, hN hv⟩
  · simp only [rdP, if_true, if_false, show ¬ (6 : Nat) = 0 by omega, show ¬ (6 : Nat) = 1 by omega, show ¬ (6 : Nat) = 2 by omega, show ¬ (6 : Nat) = 3 by omega, show ¬ (6 : Nat) = 4 by omega, show ¬ (6 : Nat) = 5 by omega, Option.map_eq_some_iff, Prod.exists, Prod.mk.injEq] at h
    obtain ⟨v, Q, hv, rfl, rfl⟩ := h
    obtain ⟨h1, h2, h3⟩ := rdN_some hs hv
    exact ⟨by simp [layP, sg_sI (by omega : v < 4294967296)]; exact h1, rfl, hN hv⟩
  · simp only [rdP, if_true, if_false, show ¬ (7 : Nat) = 0 by omega, show ¬ (7 : Nat) = 1 by omega, show ¬ (7 : Nat) = 2 by omega, show ¬ (7 : Nat) = 3 by omega, show ¬ (7 : Nat) = 4 by omega, show ¬ (7 : Nat) = 5 by omega, show ¬ (7 : Nat) = 6 by omega, Option.some.injEq, Prod.mk.injEq] at h
    obtain ⟨rfl, rfl⟩ := h
    exact ⟨by simp [layP], rfl, hdrop _ rfl⟩
  · simp only [rdP, if_true, if_false, show ¬ (8 : Nat) = 0 by omega, show ¬ (8 : Nat) = 1 by omega, show ¬ (8 : Nat) = 2 by omega, show ¬ (8 : Nat) = 3 by omega, show ¬ (8 : Nat) = 4 by omega, show ¬ (8 : Nat) = 5 by omega, show ¬ (8 : Nat) = 6 by omega, show ¬ (8 : Nat) = 7 by omega, Option.map_eq_some_iff, Prod.exists, Prod.mk.injEq] at h
    obtain ⟨v, Q, hv, rfl, rfl⟩ := h
    obtain ⟨h1, h2, h3⟩ := rdN_some hs hv
    exact ⟨by simp [layP]; exact h1, rfl, hN hv⟩
  · simp only [rdP, if_true, if_false, show ¬ (9 : Nat) = 0 by omega, show ¬ (9 : Nat) = 1 by omega, show ¬ (9 : Nat) = 2 by omega, show ¬ (9 : Nat) = 3 by omega, show ¬ (9 : Nat) = 4 by omega, show ¬ (9 : Nat) = 5 by omega, show ¬ (9 : Nat) = 6 by omega, show ¬ (9 : Nat) = 7 by omega, show ¬ (9 : Nat) = 8 by omega] at h
    split at h
    · cases h
    · rename_i k R1 hv
      obtain ⟨h1, h2, h3⟩ := rdN_some hs hv
      have hs1 := hN hv
      split at h
      · cases h
      · rename_i hl
        simp only [Option.some.injEq, Prod.mk.injEq] at h
        obtain ⟨rfl, rfl⟩ := h
        refine ⟨?_, rfl, fun x hx => hs1 x (List.mem_of_mem_drop hx)⟩
        simp only [layP, if_true, if_false, show ¬ (9 : Nat) = 0 by omega, show ¬ (9 : Nat) = 1 by omega, show ¬ (9 : Nat) = 2 by omega, show ¬ (9 : Nat) = 3 by omega, show ¬ (9 : Nat) = 4 by omega, show ¬ (9 : Nat) = 5 by omega, show ¬ (9 : Nat) = 6 by omega, show ¬ (9 : Nat) = 7 by omega, show ¬ (9 : Nat) = 8 by omega]
        rw [gL_length, gL_take R1 hs1 k (by omega), List.append_assoc, List.take_append_drop]
        exact h1
end Go.Proofs.Ytaffgoacbiedlaa
namespace Go.Proofs.Ytaffgoacbiedlaa

theorem mv0 (c d : Cl) : mv 0 c d = { c with size := d.size } := rfl
theorem mv1 (c d : Cl) : mv 1 c d = { c with obj := d.obj } := rfl
theorem mv2 (c d : Cl) : mv 2 c d = { c with hi := d.hi, lo := d.lo } := rfl
theorem mv3 (c d : Cl) : mv 3 c d = { c with given := d.given } := rfl
theorem mv4 (c d : Cl) : mv 4 c d = { c with rights := d.rights } := rfl
theorem mv5 (c d : Cl) : mv 5 c d = { c with off := d.off } := rfl
theorem mv6 (c d : Cl) : mv 6 c d = { c with n := d.n } := rfl
theorem mv7 (c d : Cl) : mv 7 c d = { c with data := d.data } := rfl
theorem mv8 (c d : Cl) : mv 8 c d = { c with index := d.index } := rfl
theorem mv9 (c d : Cl) : mv 9 c d = { c with gifts := d.gifts } := rfl
theorem layP_mv {p q : Nat} (c d : Cl) (h : q ≠ p) : layP (mv q c d) p = layP c p := by
  have key : ∀ r : Nat, q = r → (p = r) = False := fun r e => eq_false (fun e2 => h (e.trans e2.symm))
  by_cases h0 : q = 0
  · have k := key _ h0
    subst h0
    rw [mv0]
    unfold layP
    simp only [k, if_false]
  by_cases h1 : q = 1
  · have k := key _ h1
    subst h1
    rw [mv1]
    unfold layP
    simp only [k, if_false]
  by_cases h2 : q = 2
  · have k := key _ h2
    subst h2
    rw [mv2]
    unfold layP
    simp only [k, if_false]
  by_cases h3 : q = 3
  · have k := key _ h3
    subst h3
    rw [mv3]
    unfold layP
    simp only [k, if_false]
  by_cases h4 : q = 4
  · have k := key _ h4
    subst h4
    rw [mv4]
    unfold layP
    simp only [k, if_false]
  by_cases h5 : q = 5
  · have k := key _ h5
    subst h5
    rw [mv5]
    unfold layP
    simp only [k, if_false]
  by_cases h6 : q = 6
  · have k := key _ h6
    subst h6
    rw [mv6]
    unfold layP
    simp only [k, if_false]
  by_cases h7 : q = 7
  · have k := key _ h7
    subst h7
    rw [mv7]
    unfold layP
    simp only [k, if_false]
  by_cases h8 : q = 8
  · have k := key _ h8
    subst h8
    rw [mv8]
    unfold layP
    simp only [k, if_false]
  by_cases h9 : q = 9
  · have k := key _ h9
    subst h9
    rw [mv9]
    unfold layP
    simp only [k, if_false]
  have : mv q c d = c := by unfold mv; rw [if_neg h0, if_neg h1, if_neg h2, if_neg h3, if_neg h4, if_neg h5, if_neg h6, if_neg h7, if_neg h8, if_neg h9]
  rw [this]
theorem mv_op (q : Nat) (c d : Cl) : (mv q c d).op = c.op ∧ (mv q c d).by_ = c.by_ := by
  unfold mv
  repeat' split
  all_goals exact ⟨rfl, rfl⟩
theorem rdP_word {p : Nat} {c c' : Cl} {R R' : List Nat} (hs : ∀ x ∈ R, x < 256) (h : rdP p c R = some (c', R')) (h1 : c.hi < 18446744073709551616) (h2 : c.lo < 18446744073709551616) : c'.hi < 18446744073709551616 ∧ c'.lo < 18446744073709551616 := by
  unfold rdP at h
  by_cases e : p = 2
  · subst e
    simp only [if_true, if_false, show ¬ (2 : Nat) = 0 by omega, show ¬ (2 : Nat) = 1 by omega] at h
    split at h
    · cases h
    · rename_i hl
      simp only [Option.some.injEq, Prod.mk.injEq] at h
      obtain ⟨rfl, rfl⟩ := h
      have a1 := valL_take_lt R 8 (by omega) hs
      have a2 := valL_take_lt (R.drop 8) 8 (by simp; omega) (fun x hx => hs x (List.mem_of_mem_drop hx))
      exact ⟨by simp only; omega, by simp only; omega⟩
  · rw [if_neg e] at h
    repeat' split at h
    all_goals first
      | cases h; done
      | (simp only [Option.map_eq_some_iff, Prod.exists, Prod.mk.injEq] at h; obtain ⟨v, Q, _, rfl, rfl⟩ := h; exact ⟨h1, h2⟩)
      | (simp only [Option.some.injEq, Prod.mk.injEq] at h; obtain ⟨rfl, rfl⟩ := h; exact ⟨h1, h2⟩)
theorem rdA_same {p : Nat} : ∀ (ps : List Nat) (c c' : Cl) (R R' : List Nat), (∀ x ∈ R, x < 256) → (∀ q ∈ ps, q < 10) → p ∉ ps → rdA ps c R = some (c', R') → layP c' p = layP c p
  | [], c, c', R, R', _, _, _, h => by
    simp only [rdA, Option.some.injEq, Prod.mk.injEq] at h
    rw [h.1]
  | q :: ps, c, c', R, R', hs, hq, hn, h => by
    simp only [rdA] at h
    split at h
    · cases h
    · rename_i c1 R1 h1
      obtain ⟨_, e2, e3⟩ := rdP_some hs (hq q (by simp)) h1
      rw [rdA_same ps c1 c' R1 R' e3 (fun x hx => hq x (by simp [hx])) (fun hx => hn (by simp [hx])) h, e2, layP_mv _ _ (fun e => hn (by simp [e]))]
theorem rdA_some : ∀ (ps : List Nat) (c c' : Cl) (R R' : List Nat), (∀ x ∈ R, x < 256) → (∀ q ∈ ps, q < 10) → ps.Nodup → c.hi < 18446744073709551616 → c.lo < 18446744073709551616 → rdA ps c R = some (c', R') →
    R = layA c' ps ++ R' ∧ c'.op = c.op ∧ c'.by_ = c.by_ ∧ c'.hi < 18446744073709551616 ∧ c'.lo < 18446744073709551616
  | [], c, c', R, R', _, _, _, h1, h2, h => by
    simp only [rdA, Option.some.injEq, Prod.mk.injEq] at h
    obtain ⟨rfl, rfl⟩ := h
    exact ⟨rfl, rfl, rfl, h1, h2⟩
  | q :: ps, c, c', R, R', hs, hq, hn, h1, h2, h => by
    simp only [rdA] at h
    split at h
    · cases h
    · rename_i c1 R1 hr
      have hq0 := hq q (by simp)
      have hqs : ∀ x ∈ ps, x < 10 := fun x hx => hq x (by simp [hx])
      rw [List.nodup_cons] at hn
      obtain ⟨e1, e2, e3⟩ := rdP_some hs hq0 hr
      obtain ⟨w1, w2⟩ := rdP_word hs hr h1 h2
      obtain ⟨f1, f2, f3, f4⟩ := rdA_some ps c1 c' R1 R' e3 hqs hn.2 w1 w2 h
      have e4 := rdA_same ps c1 c' R1 R' e3 hqs hn.1 h
      have e5 := mv_op q c c1
      rw [← e2] at e5
      refine ⟨?_, f2.trans e5.1, f3.trans e5.2, f4⟩
      rw [e1, f1, layA, e4, List.append_assoc]
theorem parts_ok (op : Int) : (∀ q ∈ partsL op, q < 10) ∧ (partsL op).Nodup := by
  unfold partsL
  repeat' split
  all_goals decide
theorem ps_some {R : List Nat} {c : Cl} (hs : ∀ x ∈ R, x < 256) (h : psC R = some c) : fm c = true ∧ ly c = R ∧ c.hi < 18446744073709551616 ∧ c.lo < 18446744073709551616 := by
  unfold psC at h
  split at h
  · cases h
  · rename_i c0 R0 hr
    split at h
    · rename_i hf
      cases h
      obtain ⟨rfl, hf⟩ := hf
      refine ⟨hf, ?_⟩
      unfold rdC at hr
      split at hr
      · cases hr
      · rename_i op R1 h1
        split at hr
        · cases hr
        · rename_i b R2 h2
          obtain ⟨a1, a2, a3⟩ := rdN_some hs h1
          have s1 : ∀ x ∈ R1, x < 256 := fun x hx => hs x (by rw [a1]; exact List.mem_append_right _ hx)
          obtain ⟨b1, b2, b3⟩ := rdN_some s1 h2
          have s2 : ∀ x ∈ R2, x < 256 := fun x hx => s1 x (by rw [b1]; exact List.mem_append_right _ hx)
          obtain ⟨d1, d2, d3, d4, d5⟩ := rdA_some _ _ _ _ _ s2 (parts_ok _).1 (parts_ok _).2 (by simp [clz]) (by simp [clz]) hr
          refine ⟨?_, d4, d5⟩
          have e1 : c.op = (op : Int) := d2
          have e2 : c.by_ = (b : Int) := d3
          unfold ly
          rw [e1, e2, a1, b1, d1, Int.toNat_natCast, Int.toNat_natCast, List.append_nil, List.append_assoc]
    · cases h

theorem all_okP {c : Cl} (h : inB c = true) (h1 : c.hi < 18446744073709551616) (h2 : c.lo < 18446744073709551616) (p : Nat) : okP c p := by
  simp only [inB, Bool.and_eq_true, decide_eq_true_eq] at h
  obtain ⟨⟨⟨⟨⟨⟨⟨⟨a, b⟩, c⟩, d⟩, e⟩, f⟩, g⟩, i⟩, j⟩ := h
  exact ⟨fun _ => b, fun _ => e, fun _ => ⟨h1, h2⟩, fun _ => f, fun _ => c, fun _ => d, fun _ => i, fun _ => g, fun _ => j⟩
def seven : List Nat → Prop
  | [] => True
  | p :: ps => (p = 7 → ps = []) ∧ seven ps
theorem parts_seven (op : Int) : seven (partsL op) := by
  unfold partsL
  repeat' split
  all_goals simp [seven]
theorem rdA_lay (c : Cl) (hok : ∀ p, okP c p) : ∀ (ps : List Nat) (a : Cl), (∀ q ∈ ps, q < 10) → seven ps → rdA ps a (layA c ps) = some (ps.foldl (fun a p => mv p a c) a, [])
  | [], a, _, _ => rfl
  | p :: ps, a, hq, h7 => by
    simp only [rdA, layA]
    rw [rdP_lay p a c (layA c ps) (hok p) (fun e => by rw [h7.1 e]; rfl) (hq p (by simp))]
    simp only [List.foldl_cons]
    exact rdA_lay c hok ps _ (fun x hx => hq x (by simp [hx])) h7.2
/-- The call with all that its op does not use zero. -/
def kp0 (c : Cl) : Cl := (partsL c.op).foldl (fun a p => mv p a c) (clz c.op c.by_)
theorem blB_iff {c : Cl} : blB c = true ↔ c.size = 0 ∧ c.obj = 0 ∧ c.hi = 0 ∧ c.lo = 0 ∧ c.given = false ∧ c.rights = 0 ∧ c.off = 0 ∧ c.n = 0 ∧ c.data = [] ∧ c.index = 0 ∧ c.gifts = [] := by
  simp only [blB, Bool.and_eq_true, decide_eq_true_eq, Bool.not_eq_true', List.length_eq_zero_iff]
  constructor
  · rintro ⟨⟨⟨⟨⟨⟨⟨⟨a, b⟩, c⟩, d⟩, e⟩, f⟩, g⟩, h⟩, i⟩
    exact ⟨a, b.1, b.2.1, b.2.2, c, d, e, f, g, h, i⟩
  · rintro ⟨a, b1, b2, b3, c, d, e, f, g, h, i⟩
    exact ⟨⟨⟨⟨⟨⟨⟨⟨a, b1, b2, b3⟩, c⟩, d⟩, e⟩, f⟩, g⟩, h⟩, i⟩
theorem kp0_iff (c : Cl) : kp0 c = c ↔ blB (unu c) = true := by
  obtain ⟨op, by_, size, obj, hi, lo, given, rights, off, n, data, index, gifts⟩ := c
  rw [blB_iff]
  unfold kp0 unu partsL
  simp only
  repeat' split
  all_goals
    simp only [List.foldl, wo, mv0, mv1, mv2, mv3, mv4, mv5, mv6, mv7, mv8, mv9, clz, Cl.mk.injEq, true_and, and_true, eq_comm (a := (0 : Int)), eq_comm (a := (0 : Nat)), eq_comm (a := false), eq_comm (a := ([] : List Nat)), eq_comm (a := ([] : List Int))]
theorem kp0_eq {c : Cl} (h : blB (unu c) = true) : kp0 c = c := (kp0_iff c).2 h
theorem ps_lay {c : Cl} (h : fm c = true) (h1 : c.hi < 18446744073709551616) (h2 : c.lo < 18446744073709551616) : psC (ly c) = some c := by
  have hf := h
  simp only [fm, Bool.and_eq_true] at h
  obtain ⟨⟨⟨a, b⟩, d⟩, e⟩ := h
  have a' := wi_iff.1 a
  have b' : 0 ≤ c.by_ ∧ c.by_ ≤ 65535 := by
    simp only [inB, Bool.and_eq_true] at b
    exact wi_iff.1 b.1.1.1.1.1.1.1.1
  unfold psC rdC ly
  rw [List.append_assoc, rdN_lay _ (by omega) (by omega)]
  simp only
  rw [rdN_lay _ (by omega) (by omega)]
  simp only
  rw [Int.toNat_of_nonneg (by omega), Int.toNat_of_nonneg (by omega), rdA_lay c (all_okP b h1 h2) _ _ (parts_ok _).1 (parts_seven _)]
  have := kp0_eq e
  unfold kp0 at this
  rw [this]
  simp only
  rw [if_pos ⟨trivial, hf⟩]
end Go.Proofs.Ytaffgoacbiedlaa
