import Derived.Test.YtaffgoacbiedlaaK1
namespace Go.Proofs.Ytaffgoacbiedlaa
open Go.RowKit
set_option linter.unusedVariables false
set_option linter.unusedSimpArgs false

def bt (R : List Nat) (k : Nat) : Nat := R.getD k 0
theorem bt_lt {R : List Nat} (hs : ∀ x ∈ R, x < 256) (k : Nat) : bt R k < 256 := by
  unfold bt
  by_cases h : k < R.length
  · rw [List.getD_eq_getElem?_getD, List.getElem?_eq_getElem h]
    exact hs _ (List.getElem_mem h)
  · rw [List.getD_eq_getElem?_getD, List.getElem?_eq_none (by omega)]
    decide
theorem bt_mid (P M Q : List Nat) (j : Nat) (h : j < M.length) : bt (P ++ (M ++ Q)) (P.length + j) = M[j] := by
  unfold bt
  rw [List.getD_eq_getElem?_getD, List.getElem?_append_right (by omega), List.getElem?_append_left (by omega), Nat.add_sub_cancel_left, List.getElem?_eq_getElem h]
  rfl
def hv (R : List Nat) (p n : Nat) : Nat → Nat
  | 0 => 0
  | s + 1 => hv R p n s * 256 + bt R (p + (n - 1 - s))
def gt (R : List Nat) (p n : Nat) : Nat := hv R p n n
theorem hv_lt {R : List Nat} (hs : ∀ x ∈ R, x < 256) (p n s : Nat) : hv R p n s < 256 ^ s := by
  induction s with
  | zero => simp [hv]
  | succ s ih =>
    have := bt_lt hs (p + (n - 1 - s))
    rw [hv, Nat.pow_succ]
    omega
theorem gt_lt {R : List Nat} (hs : ∀ x ∈ R, x < 256) (p n : Nat) : gt R p n < 256 ^ n := hv_lt hs p n n
theorem gt_lay {R P Q : List Nat} {v n p : Nat} (hR : R = P ++ (leL v n ++ Q)) (hP : P.length = p) (hv : v < 256 ^ n) : gt R p n = v := by
  have hb : ∀ j, j < n → bt R (p + j) = v / 256 ^ j % 256 := fun j hj => by
    rw [hR, ← hP, bt_mid P _ Q j (by rw [leL_length]; exact hj)]
    simp [leL]
  have key : ∀ s, s ≤ n → Go.Proofs.Ytaffgoacbiedlaa.hv R p n s = v / 256 ^ (n - s) := by
    intro s
    induction s with
    | zero => intro _; rw [Nat.sub_zero, Nat.div_eq_of_lt hv]; rfl
    | succ s ih =>
      intro hs
      rw [Go.Proofs.Ytaffgoacbiedlaa.hv, ih (by omega), hb _ (by omega), show n - s = (n - (s + 1)) + 1 by omega, show n - 1 - s = n - (s + 1) by omega, Nat.pow_succ, ← Nat.div_div_eq_div_mul]
      have := Nat.div_add_mod (v / 256 ^ (n - (s + 1))) 256
      omega
  unfold gt
  rw [key n (Nat.le_refl _), Nat.sub_self, Nat.pow_zero, Nat.div_one]
def wn (R : List Nat) (p : Nat) : Nat → Nat
  | 0 => 0
  | i + 1 => wn R p i + bt R (p + i / 8) / 2 ^ (i % 8) % 2 * 2 ^ i
theorem wn_lt (R : List Nat) (p i : Nat) : wn R p i < 2 ^ i := by
  induction i with
  | zero => simp [wn]
  | succ i ih =>
    have : bt R (p + i / 8) / 2 ^ (i % 8) % 2 < 2 := Nat.mod_lt _ (by decide)
    rw [wn, Nat.pow_succ]
    rcases (by omega : bt R (p + i / 8) / 2 ^ (i % 8) % 2 = 0 ∨ bt R (p + i / 8) / 2 ^ (i % 8) % 2 = 1) with h | h <;> rw [h] <;> omega
theorem bit_byte (N i : Nat) : N / 256 ^ (i / 8) % 256 / 2 ^ (i % 8) % 2 = N / 2 ^ i % 2 := by
  have e : N / 2 ^ i = N / 256 ^ (i / 8) / 2 ^ (i % 8) := by
    rw [Nat.div_div_eq_div_mul, show (256 : Nat) ^ (i / 8) = 2 ^ (8 * (i / 8)) by rw [Nat.pow_mul], ← Nat.pow_add, Nat.div_add_mod]
  rw [e]
  generalize N / 256 ^ (i / 8) = M
  have h8 : i % 8 < 8 := Nat.mod_lt _ (by decide)
  generalize i % 8 = r at h8 ⊢
  rcases (by omega : r = 0 ∨ r = 1 ∨ r = 2 ∨ r = 3 ∨ r = 4 ∨ r = 5 ∨ r = 6 ∨ r = 7) with rfl | rfl | rfl | rfl | rfl | rfl | rfl | rfl <;> omega
theorem wn_lay {R P Q : List Nat} {lo hi p : Nat} (hR : R = P ++ (leL lo 8 ++ (leL hi 8 ++ Q))) (hP : P.length = p) (h1 : hi < 18446744073709551616) (h2 : lo < 18446744073709551616) : wn R p 128 = hi * 18446744073709551616 + lo := by
  have hR2 : R = P ++ (W.bytesOf (hi * 18446744073709551616 + lo) ++ Q) := by
    have e : W.bytesOf (hi * 18446744073709551616 + lo) = leL lo 8 ++ leL hi 8 := bytesOf_leL hi lo h1 h2
    rw [hR, e, List.append_assoc]
  generalize hN : hi * 18446744073709551616 + lo = N at hR2 ⊢
  have hNlt : N < 2 ^ 128 := by omega
  have hb : ∀ j, j < 16 → bt R (p + j) = N / 256 ^ j % 256 := fun j hj => by
    rw [hR2, ← hP, bt_mid P _ Q j (by rw [W.bytesOf_length]; exact hj)]
    simp [W.bytesOf, W.byteN]
  have key : ∀ i, i ≤ 128 → wn R p i = N % 2 ^ i := by
    intro i
    induction i with
    | zero => intro _; simp [wn, Nat.mod_one]
    | succ i ih =>
      intro hi
      rw [wn, ih (by omega), hb _ (by omega), bit_byte, Nat.mod_pow_succ, Nat.mul_comm]
  rw [key 128 (Nat.le_refl _), Nat.mod_eq_of_lt hNlt]
def sv (V : Nat) : Int := IntKind.i64.wrap (V : Int)
theorem sv_small {V : Nat} (h : V < 9223372036854775808) : sv V = (V : Int) := by unfold sv; rw [IntKind.wrap_i64]; omega
def gg (R : List Nat) (k : Nat) : List Int := (List.range k).map fun i => (gt R (4 + 2 * i) 2 : Int)
theorem gg_succ (R : List Nat) (k : Nat) : gg R (k + 1) = gg R k ++ [(gt R (4 + 2 * k) 2 : Int)] := by simp [gg, List.range_succ]
theorem gg_length (R : List Nat) (k : Nat) : (gg R k).length = k := by simp [gg]
def hiW (R : List Nat) (p : Nat) : Nat := wn R p 128 / 18446744073709551616
def loW (R : List Nat) (p : Nat) : Nat := wn R p 128 % 18446744073709551616
theorem hiW_lt (R : List Nat) (p : Nat) : hiW R p < 18446744073709551616 := by have := wn_lt R p 128; unfold hiW; omega
theorem loW_lt (R : List Nat) (p : Nat) : loW R p < 18446744073709551616 := by unfold loW; omega
theorem word_lay {R P Q : List Nat} {lo hi p : Nat} (hR : R = P ++ (leL lo 8 ++ (leL hi 8 ++ Q))) (hP : P.length = p) (h1 : hi < 18446744073709551616) (h2 : lo < 18446744073709551616) : hiW R p = hi ∧ loW R p = lo := by
  have := wn_lay hR hP h1 h2
  unfold hiW loW
  omega
def gs (R : List Nat) : Cl :=
  if gt R 0 1 = 1 then ⟨1, gt R 1 2, sI (gt R 3 4), 0, 0, 0, false, 0, 0, 0, [], 0, []⟩
  else if gt R 0 1 = 2 ∨ gt R 0 1 = 4 ∨ gt R 0 1 = 7 then ⟨gt R 0 1, gt R 1 2, 0, sv (gt R 3 8), hiW R 11, loW R 11, false, 0, 0, 0, [], 0, []⟩
  else if gt R 0 1 = 3 then ⟨3, gt R 1 2, 0, sv (gt R 3 8), hiW R 11, loW R 11, false, gt R 27 1, 0, 0, [], 0, []⟩
  else if gt R 0 1 = 5 then ⟨5, gt R 1 2, 0, sv (gt R 3 8), hiW R 12, loW R 12, decide (gt R 11 1 = 1), 0, sI (gt R 28 4), sI (gt R 32 4), [], 0, []⟩
  else if gt R 0 1 = 6 then ⟨6, gt R 1 2, 0, sv (gt R 3 8), hiW R 12, loW R 12, decide (gt R 11 1 = 1), 0, sI (gt R 28 4), 0, R.drop 32, 0, []⟩
  else if gt R 0 1 = 8 then ⟨8, gt R 1 2, 0, 0, 0, 0, false, 0, 0, 0, [], gt R 3 2, []⟩
  else if gt R 0 1 = 9 then ⟨9, gt R 1 2, 0, 0, 0, 0, false, 0, 0, 0, [], 0, gg R (gt R 3 1)⟩
  else clz (gt R 0 1) (gt R 1 2)
theorem gg_lay {R P : List Nat} {l : List Int} (hR : R = P ++ g2 l) (hP : P.length = 4) (h : ∀ g ∈ l, 0 ≤ g ∧ g ≤ 65535) : gg R l.length = l := by
  apply List.ext_getElem (by rw [gg_length])
  intro i h1 h2
  have hg := h _ (List.getElem_mem h2)
  have : gt R (4 + 2 * i) 2 = l[i].toNat := by
    refine gt_lay (P := P ++ g2 (l.take i)) (Q := g2 (l.drop (i + 1))) ?_ ?_ (by omega)
    · have e : l = l.take i ++ ([l[i]] ++ l.drop (i + 1)) := by simp
      rw [hR]
      conv => lhs; rw [e]
      rw [g2_append, g2_append, g2_one, List.append_assoc]
    · rw [List.length_append, g2_length, List.length_take, hP]; omega
  simp only [gg, List.getElem_map, List.getElem_range, this]
  omega
set_option maxHeartbeats 4000000 in
theorem gs_lay {c : Cl} (h : fm c = true) (h1 : c.hi < 18446744073709551616) (h2 : c.lo < 18446744073709551616) : gs (ly c) = c := by
  have h0 := h
  simp only [fm, Bool.and_eq_true] at h0
  have hop := wi_iff.1 h0.1.1.1
  have hin := h0.1.1.2
  have hbl := blB_iff.1 h0.2
  simp only [inB, Bool.and_eq_true] at hin
  have hby := wi_iff.1 hin.1.1.1.1.1.1.1.1
  have hsz := hin.1.1.1.1.1.1.1.2
  have hof := hin.1.1.1.1.1.1.2
  have hnn := hin.1.1.1.1.1.2
  have hob := wi_iff.1 hin.1.1.1.1.2
  have hri := wi_iff.1 hin.1.1.1.2
  have hix := wi_iff.1 hin.1.1.2
  have hgf := hin.2
  simp only [gfB, Bool.and_eq_true, List.all_eq_true, decide_eq_true_eq, wi_iff] at hgf
  clear h0 hin h
  obtain ⟨op, by_, size, obj, hi, lo, given, rights, off, n, data, index, gifts⟩ := c
  simp only at hop hby hob hri hix hsz hof hnn hgf h1 h2 hbl
  have eby : ((by_.toNat : Nat) : Int) = by_ := by omega
  have eob : ((obj.toNat : Nat) : Int) = obj := by omega
  have eri : ((rights.toNat : Nat) : Int) = rights := by omega
  have eix : ((index.toNat : Nat) : Int) = index := by omega
  have esz := sI_sg hsz
  have eof := sI_sg hof
  have enn := sI_sg hnn
  have lsz := sg_lt size
  have lof := sg_lt off
  have lnn := sg_lt n
  have hsv : sv obj.toNat = obj := by rw [sv_small (by omega)]; exact eob
  rcases (by omega : op = 1 ∨ op = 2 ∨ op = 3 ∨ op = 4 ∨ op = 5 ∨ op = 6 ∨ op = 7 ∨ op = 8 ∨ op = 9 ∨ op = 10) with rfl | rfl | rfl | rfl | rfl | rfl | rfl | rfl | rfl | rfl
  · simp [unu, partsL, wo, mv, clz] at hbl
    have hR : ∀ c, c = (⟨1, by_, size, obj, hi, lo, given, rights, off, n, data, index, gifts⟩ : Cl) → ly c = leL (1) 1 ++ (leL (by_.toNat) 2 ++ (leL (sg size) 4 ++ [])) := by
      rintro c rfl
      simp [ly, layA, layP, partsL]
    have hR := hR _ rfl
    generalize ly ⟨1, by_, size, obj, hi, lo, given, rights, off, n, data, index, gifts⟩ = R at hR ⊢
    have g0 : gt R 0 1 = 1 := gt_lay (P := []) (Q := leL (by_.toNat) 2 ++ (leL (sg size) 4 ++ [])) (by rw [hR]; simp) (by simp [leL_length]) (by decide)
    have g1 : gt R 1 2 = by_.toNat := gt_lay (P := leL (1) 1 ++ []) (Q := leL (sg size) 4 ++ []) (by rw [hR]; simp) (by simp [leL_length]) (by omega)
    have g2 : gt R 3 4 = sg size := gt_lay (P := leL (1) 1 ++ (leL (by_.toNat) 2 ++ [])) (Q := []) (by rw [hR]; simp) (by simp [leL_length]) (by omega)
    simp [gs, clz, g0, g1, g2, eby, eob, eri, eix, esz, eof, enn, hsv, hbl]
  · simp [unu, partsL, wo, mv, clz] at hbl
    have hR : ∀ c, c = (⟨2, by_, size, obj, hi, lo, given, rights, off, n, data, index, gifts⟩ : Cl) → ly c = leL (2) 1 ++ (leL (by_.toNat) 2 ++ (leL (obj.toNat) 8 ++ ((leL lo 8 ++ leL hi 8) ++ []))) := by
      rintro c rfl
      simp [ly, layA, layP, partsL]
    have hR := hR _ rfl
    generalize ly ⟨2, by_, size, obj, hi, lo, given, rights, off, n, data, index, gifts⟩ = R at hR ⊢
    have g0 : gt R 0 1 = 2 := gt_lay (P := []) (Q := leL (by_.toNat) 2 ++ (leL (obj.toNat) 8 ++ ((leL lo 8 ++ leL hi 8) ++ []))) (by rw [hR]; simp) (by simp [leL_length]) (by decide)
    have g1 : gt R 1 2 = by_.toNat := gt_lay (P := leL (2) 1 ++ []) (Q := leL (obj.toNat) 8 ++ ((leL lo 8 ++ leL hi 8) ++ [])) (by rw [hR]; simp) (by simp [leL_length]) (by omega)
    have g2 : gt R 3 8 = obj.toNat := gt_lay (P := leL (2) 1 ++ (leL (by_.toNat) 2 ++ [])) (Q := (leL lo 8 ++ leL hi 8) ++ []) (by rw [hR]; simp) (by simp [leL_length]) (by omega)
    obtain ⟨w1, w2⟩ := word_lay (R := R) (P := leL (2) 1 ++ (leL (by_.toNat) 2 ++ (leL (obj.toNat) 8 ++ []))) (Q := []) (lo := lo) (hi := hi) (p := 11) (by rw [hR]; simp) (by simp [leL_length]) h1 h2
    simp [gs, clz, g0, g1, g2, w1, w2, eby, eob, eri, eix, esz, eof, enn, hsv, hbl]
  · simp [unu, partsL, wo, mv, clz] at hbl
    have hR : ∀ c, c = (⟨3, by_, size, obj, hi, lo, given, rights, off, n, data, index, gifts⟩ : Cl) → ly c = leL (3) 1 ++ (leL (by_.toNat) 2 ++ (leL (obj.toNat) 8 ++ ((leL lo 8 ++ leL hi 8) ++ (leL (rights.toNat) 1 ++ [])))) := by
      rintro c rfl
      simp [ly, layA, layP, partsL]
    have hR := hR _ rfl
    generalize ly ⟨3, by_, size, obj, hi, lo, given, rights, off, n, data, index, gifts⟩ = R at hR ⊢
    have g0 : gt R 0 1 = 3 := gt_lay (P := []) (Q := leL (by_.toNat) 2 ++ (leL (obj.toNat) 8 ++ ((leL lo 8 ++ leL hi 8) ++ (leL (rights.toNat) 1 ++ [])))) (by rw [hR]; simp) (by simp [leL_length]) (by decide)
    have g1 : gt R 1 2 = by_.toNat := gt_lay (P := leL (3) 1 ++ []) (Q := leL (obj.toNat) 8 ++ ((leL lo 8 ++ leL hi 8) ++ (leL (rights.toNat) 1 ++ []))) (by rw [hR]; simp) (by simp [leL_length]) (by omega)
    have g2 : gt R 3 8 = obj.toNat := gt_lay (P := leL (3) 1 ++ (leL (by_.toNat) 2 ++ [])) (Q := (leL lo 8 ++ leL hi 8) ++ (leL (rights.toNat) 1 ++ [])) (by rw [hR]; simp) (by simp [leL_length]) (by omega)
    obtain ⟨w1, w2⟩ := word_lay (R := R) (P := leL (3) 1 ++ (leL (by_.toNat) 2 ++ (leL (obj.toNat) 8 ++ []))) (Q := leL (rights.toNat) 1 ++ []) (lo := lo) (hi := hi) (p := 11) (by rw [hR]; simp) (by simp [leL_length]) h1 h2
    have g4 : gt R 27 1 = rights.toNat := gt_lay (P := leL (3) 1 ++ (leL (by_.toNat) 2 ++ (leL (obj.toNat) 8 ++ ((leL lo 8 ++ leL hi 8) ++ [])))) (Q := []) (by rw [hR]; simp) (by simp [leL_length]) (by omega)
    simp [gs, clz, g0, g1, g2, w1, w2, g4, eby, eob, eri, eix, esz, eof, enn, hsv, hbl]
  · simp [unu, partsL, wo, mv, clz] at hbl
    have hR : ∀ c, c = (⟨4, by_, size, obj, hi, lo, given, rights, off, n, data, index, gifts⟩ : Cl) → ly c = leL (4) 1 ++ (leL (by_.toNat) 2 ++ (leL (obj.toNat) 8 ++ ((leL lo 8 ++ leL hi 8) ++ []))) := by
      rintro c rfl
      simp [ly, layA, layP, partsL]
    have hR := hR _ rfl
    generalize ly ⟨4, by_, size, obj, hi, lo, given, rights, off, n, data, index, gifts⟩ = R at hR ⊢
    have g0 : gt R 0 1 = 4 := gt_lay (P := []) (Q := leL (by_.toNat) 2 ++ (leL (obj.toNat) 8 ++ ((leL lo 8 ++ leL hi 8) ++ []))) (by rw [hR]; simp) (by simp [leL_length]) (by decide)
    have g1 : gt R 1 2 = by_.toNat := gt_lay (P := leL (4) 1 ++ []) (Q := leL (obj.toNat) 8 ++ ((leL lo 8 ++ leL hi 8) ++ [])) (by rw [hR]; simp) (by simp [leL_length]) (by omega)
    have g2 : gt R 3 8 = obj.toNat := gt_lay (P := leL (4) 1 ++ (leL (by_.toNat) 2 ++ [])) (Q := (leL lo 8 ++ leL hi 8) ++ []) (by rw [hR]; simp) (by simp [leL_length]) (by omega)
    obtain ⟨w1, w2⟩ := word_lay (R := R) (P := leL (4) 1 ++ (leL (by_.toNat) 2 ++ (leL (obj.toNat) 8 ++ []))) (Q := []) (lo := lo) (hi := hi) (p := 11) (by rw [hR]; simp) (by simp [leL_length]) h1 h2
    simp [gs, clz, g0, g1, g2, w1, w2, eby, eob, eri, eix, esz, eof, enn, hsv, hbl]
  · simp [unu, partsL, wo, mv, clz] at hbl
    have hR : ∀ c, c = (⟨5, by_, size, obj, hi, lo, given, rights, off, n, data, index, gifts⟩ : Cl) → ly c = leL (5) 1 ++ (leL (by_.toNat) 2 ++ (leL (obj.toNat) 8 ++ (leL ((if given then 1 else 0)) 1 ++ ((leL lo 8 ++ leL hi 8) ++ (leL (sg off) 4 ++ (leL (sg n) 4 ++ [])))))) := by
      rintro c rfl
      simp [ly, layA, layP, partsL]
    have hR := hR _ rfl
    generalize ly ⟨5, by_, size, obj, hi, lo, given, rights, off, n, data, index, gifts⟩ = R at hR ⊢
    have g0 : gt R 0 1 = 5 := gt_lay (P := []) (Q := leL (by_.toNat) 2 ++ (leL (obj.toNat) 8 ++ (leL ((if given then 1 else 0)) 1 ++ ((leL lo 8 ++ leL hi 8) ++ (leL (sg off) 4 ++ (leL (sg n) 4 ++ [])))))) (by rw [hR]; simp) (by simp [leL_length]) (by decide)
    have g1 : gt R 1 2 = by_.toNat := gt_lay (P := leL (5) 1 ++ []) (Q := leL (obj.toNat) 8 ++ (leL ((if given then 1 else 0)) 1 ++ ((leL lo 8 ++ leL hi 8) ++ (leL (sg off) 4 ++ (leL (sg n) 4 ++ []))))) (by rw [hR]; simp) (by simp [leL_length]) (by omega)
    have g2 : gt R 3 8 = obj.toNat := gt_lay (P := leL (5) 1 ++ (leL (by_.toNat) 2 ++ [])) (Q := leL ((if given then 1 else 0)) 1 ++ ((leL lo 8 ++ leL hi 8) ++ (leL (sg off) 4 ++ (leL (sg n) 4 ++ [])))) (by rw [hR]; simp) (by simp [leL_length]) (by omega)
    have g3 : gt R 11 1 = (if given then 1 else 0) := gt_lay (P := leL (5) 1 ++ (leL (by_.toNat) 2 ++ (leL (obj.toNat) 8 ++ []))) (Q := (leL lo 8 ++ leL hi 8) ++ (leL (sg off) 4 ++ (leL (sg n) 4 ++ []))) (by rw [hR]; simp) (by simp [leL_length]) (by split <;> decide)
    obtain ⟨w1, w2⟩ := word_lay (R := R) (P := leL (5) 1 ++ (leL (by_.toNat) 2 ++ (leL (obj.toNat) 8 ++ (leL ((if given then 1 else 0)) 1 ++ [])))) (Q := leL (sg off) 4 ++ (leL (sg n) 4 ++ [])) (lo := lo) (hi := hi) (p := 12) (by rw [hR]; simp) (by simp [leL_length]) h1 h2
    have g5 : gt R 28 4 = sg off := gt_lay (P := leL (5) 1 ++ (leL (by_.toNat) 2 ++ (leL (obj.toNat) 8 ++ (leL ((if given then 1 else 0)) 1 ++ ((leL lo 8 ++ leL hi 8) ++ []))))) (Q := leL (sg n) 4 ++ []) (by rw [hR]; simp) (by simp [leL_length]) (by omega)
    have g6 : gt R 32 4 = sg n := gt_lay (P := leL (5) 1 ++ (leL (by_.toNat) 2 ++ (leL (obj.toNat) 8 ++ (leL ((if given then 1 else 0)) 1 ++ ((leL lo 8 ++ leL hi 8) ++ (leL (sg off) 4 ++ [])))))) (Q := []) (by rw [hR]; simp) (by simp [leL_length]) (by omega)
    have gv : decide ((if given then 1 else 0) = 1) = given := by cases given <;> rfl
    simp [gs, clz, g0, g1, g2, g3, w1, w2, g5, g6, gv, eby, eob, eri, eix, esz, eof, enn, hsv, hbl]
  · simp [unu, partsL, wo, mv, clz] at hbl
    have hR : ∀ c, c = (⟨6, by_, size, obj, hi, lo, given, rights, off, n, data, index, gifts⟩ : Cl) → ly c = leL (6) 1 ++ (leL (by_.toNat) 2 ++ (leL (obj.toNat) 8 ++ (leL ((if given then 1 else 0)) 1 ++ ((leL lo 8 ++ leL hi 8) ++ (leL (sg off) 4 ++ (data ++ [])))))) := by
      rintro c rfl
      simp [ly, layA, layP, partsL]
    have hR := hR _ rfl
    generalize ly ⟨6, by_, size, obj, hi, lo, given, rights, off, n, data, index, gifts⟩ = R at hR ⊢
    have g0 : gt R 0 1 = 6 := gt_lay (P := []) (Q := leL (by_.toNat) 2 ++ (leL (obj.toNat) 8 ++ (leL ((if given then 1 else 0)) 1 ++ ((leL lo 8 ++ leL hi 8) ++ (leL (sg off) 4 ++ (data ++ [])))))) (by rw [hR]; simp) (by simp [leL_length]) (by decide)
    have g1 : gt R 1 2 = by_.toNat := gt_lay (P := leL (6) 1 ++ []) (Q := leL (obj.toNat) 8 ++ (leL ((if given then 1 else 0)) 1 ++ ((leL lo 8 ++ leL hi 8) ++ (leL (sg off) 4 ++ (data ++ []))))) (by rw [hR]; simp) (by simp [leL_length]) (by omega)
    have g2 : gt R 3 8 = obj.toNat := gt_lay (P := leL (6) 1 ++ (leL (by_.toNat) 2 ++ [])) (Q := leL ((if given then 1 else 0)) 1 ++ ((leL lo 8 ++ leL hi 8) ++ (leL (sg off) 4 ++ (data ++ [])))) (by rw [hR]; simp) (by simp [leL_length]) (by omega)
    have g3 : gt R 11 1 = (if given then 1 else 0) := gt_lay (P := leL (6) 1 ++ (leL (by_.toNat) 2 ++ (leL (obj.toNat) 8 ++ []))) (Q := (leL lo 8 ++ leL hi 8) ++ (leL (sg off) 4 ++ (data ++ []))) (by rw [hR]; simp) (by simp [leL_length]) (by split <;> decide)
    obtain ⟨w1, w2⟩ := word_lay (R := R) (P := leL (6) 1 ++ (leL (by_.toNat) 2 ++ (leL (obj.toNat) 8 ++ (leL ((if given then 1 else 0)) 1 ++ [])))) (Q := leL (sg off) 4 ++ (data ++ [])) (lo := lo) (hi := hi) (p := 12) (by rw [hR]; simp) (by simp [leL_length]) h1 h2
    have g5 : gt R 28 4 = sg off := gt_lay (P := leL (6) 1 ++ (leL (by_.toNat) 2 ++ (leL (obj.toNat) 8 ++ (leL ((if given then 1 else 0)) 1 ++ ((leL lo 8 ++ leL hi 8) ++ []))))) (Q := data ++ []) (by rw [hR]; simp) (by simp [leL_length]) (by omega)
    have gD : R.drop 32 = data := by rw [hR]; exact (show _ = _ from by rw [show leL (6) 1 ++ (leL (by_.toNat) 2 ++ (leL (obj.toNat) 8 ++ (leL ((if given then 1 else 0)) 1 ++ ((leL lo 8 ++ leL hi 8) ++ (leL (sg off) 4 ++ (data ++ [])))))) = (leL (6) 1 ++ (leL (by_.toNat) 2 ++ (leL (obj.toNat) 8 ++ (leL ((if given then 1 else 0)) 1 ++ ((leL lo 8 ++ leL hi 8) ++ (leL (sg off) 4 ++ [])))))) ++ data from (by simp)]; exact List.drop_left' (by simp [leL_length]))
    have gv : decide ((if given then 1 else 0) = 1) = given := by cases given <;> rfl
    simp [gs, clz, g0, g1, g2, g3, w1, w2, g5, gD, gv, eby, eob, eri, eix, esz, eof, enn, hsv, hbl]
  · simp [unu, partsL, wo, mv, clz] at hbl
    have hR : ∀ c, c = (⟨7, by_, size, obj, hi, lo, given, rights, off, n, data, index, gifts⟩ : Cl) → ly c = leL (7) 1 ++ (leL (by_.toNat) 2 ++ (leL (obj.toNat) 8 ++ ((leL lo 8 ++ leL hi 8) ++ []))) := by
      rintro c rfl
      simp [ly, layA, layP, partsL]
    have hR := hR _ rfl
    generalize ly ⟨7, by_, size, obj, hi, lo, given, rights, off, n, data, index, gifts⟩ = R at hR ⊢
    have g0 : gt R 0 1 = 7 := gt_lay (P := []) (Q := leL (by_.toNat) 2 ++ (leL (obj.toNat) 8 ++ ((leL lo 8 ++ leL hi 8) ++ []))) (by rw [hR]; simp) (by simp [leL_length]) (by decide)
    have g1 : gt R 1 2 = by_.toNat := gt_lay (P := leL (7) 1 ++ []) (Q := leL (obj.toNat) 8 ++ ((leL lo 8 ++ leL hi 8) ++ [])) (by rw [hR]; simp) (by simp [leL_length]) (by omega)
    have g2 : gt R 3 8 = obj.toNat := gt_lay (P := leL (7) 1 ++ (leL (by_.toNat) 2 ++ [])) (Q := (leL lo 8 ++ leL hi 8) ++ []) (by rw [hR]; simp) (by simp [leL_length]) (by omega)
    obtain ⟨w1, w2⟩ := word_lay (R := R) (P := leL (7) 1 ++ (leL (by_.toNat) 2 ++ (leL (obj.toNat) 8 ++ []))) (Q := []) (lo := lo) (hi := hi) (p := 11) (by rw [hR]; simp) (by simp [leL_length]) h1 h2
    simp [gs, clz, g0, g1, g2, w1, w2, eby, eob, eri, eix, esz, eof, enn, hsv, hbl]
  · simp [unu, partsL, wo, mv, clz] at hbl
    have hR : ∀ c, c = (⟨8, by_, size, obj, hi, lo, given, rights, off, n, data, index, gifts⟩ : Cl) → ly c = leL (8) 1 ++ (leL (by_.toNat) 2 ++ (leL (index.toNat) 2 ++ [])) := by
      rintro c rfl
      simp [ly, layA, layP, partsL]
    have hR := hR _ rfl
    generalize ly ⟨8, by_, size, obj, hi, lo, given, rights, off, n, data, index, gifts⟩ = R at hR ⊢
    have g0 : gt R 0 1 = 8 := gt_lay (P := []) (Q := leL (by_.toNat) 2 ++ (leL (index.toNat) 2 ++ [])) (by rw [hR]; simp) (by simp [leL_length]) (by decide)
    have g1 : gt R 1 2 = by_.toNat := gt_lay (P := leL (8) 1 ++ []) (Q := leL (index.toNat) 2 ++ []) (by rw [hR]; simp) (by simp [leL_length]) (by omega)
    have g2 : gt R 3 2 = index.toNat := gt_lay (P := leL (8) 1 ++ (leL (by_.toNat) 2 ++ [])) (Q := []) (by rw [hR]; simp) (by simp [leL_length]) (by omega)
    simp [gs, clz, g0, g1, g2, eby, eob, eri, eix, esz, eof, enn, hsv, hbl]
  · simp [unu, partsL, wo, mv, clz] at hbl
    have hR : ∀ c, c = (⟨9, by_, size, obj, hi, lo, given, rights, off, n, data, index, gifts⟩ : Cl) → ly c = leL (9) 1 ++ (leL (by_.toNat) 2 ++ (leL (gifts.length) 1 ++ (g2 gifts ++ []))) := by
      rintro c rfl
      simp [ly, layA, layP, partsL]
    have hR := hR _ rfl
    generalize ly ⟨9, by_, size, obj, hi, lo, given, rights, off, n, data, index, gifts⟩ = R at hR ⊢
    have g0 : gt R 0 1 = 9 := gt_lay (P := []) (Q := leL (by_.toNat) 2 ++ (leL (gifts.length) 1 ++ (g2 gifts ++ []))) (by rw [hR]; simp) (by simp [leL_length]) (by decide)
    have g1 : gt R 1 2 = by_.toNat := gt_lay (P := leL (9) 1 ++ []) (Q := leL (gifts.length) 1 ++ (g2 gifts ++ [])) (by rw [hR]; simp) (by simp [leL_length]) (by omega)
    have g2 : gt R 3 1 = gifts.length := gt_lay (P := leL (9) 1 ++ (leL (by_.toNat) 2 ++ [])) (Q := g2 gifts ++ []) (by rw [hR]; simp) (by simp [leL_length]) (by omega)
    have gG : gg R gifts.length = gifts := gg_lay (P := leL (9) 1 ++ (leL (by_.toNat) 2 ++ (leL (gifts.length) 1 ++ []))) (by rw [hR]; simp) (by simp [leL_length]) hgf.2
    simp [gs, clz, g0, g1, g2, gG, eby, eob, eri, eix, esz, eof, enn, hsv, hbl]
  · simp [unu, partsL, wo, mv, clz] at hbl
    have hR : ∀ c, c = (⟨10, by_, size, obj, hi, lo, given, rights, off, n, data, index, gifts⟩ : Cl) → ly c = leL (10) 1 ++ (leL (by_.toNat) 2 ++ []) := by
      rintro c rfl
      simp [ly, layA, layP, partsL]
    have hR := hR _ rfl
    generalize ly ⟨10, by_, size, obj, hi, lo, given, rights, off, n, data, index, gifts⟩ = R at hR ⊢
    have g0 : gt R 0 1 = 10 := gt_lay (P := []) (Q := leL (by_.toNat) 2 ++ []) (by rw [hR]; simp) (by simp [leL_length]) (by decide)
    have g1 : gt R 1 2 = by_.toNat := gt_lay (P := leL (10) 1 ++ []) (Q := []) (by rw [hR]; simp) (by simp [leL_length]) (by omega)
    simp [gs, clz, g0, g1, eby, eob, eri, eix, esz, eof, enn, hsv, hbl]
theorem gs_ps {R : List Nat} (hs : ∀ x ∈ R, x < 256) : psC R = if fm (gs R) = true ∧ ly (gs R) = R then some (gs R) else none := by
  cases h : psC R with
  | some c =>
    obtain ⟨a, b, h1, h2⟩ := ps_some hs h
    have := gs_lay a h1 h2
    rw [b] at this
    rw [this, if_pos ⟨a, b⟩]
  | none =>
    rw [if_neg]
    rintro ⟨a, b⟩
    have hh : (gs R).hi < 18446744073709551616 ∧ (gs R).lo < 18446744073709551616 := by
      unfold gs clz
      have a1 := hiW_lt R 11
      have a2 := loW_lt R 11
      have a3 := hiW_lt R 12
      have a4 := loW_lt R 12
      repeat' split
      all_goals (refine ⟨?_, ?_⟩ <;> simp only <;> omega)
    have := ps_lay a hh.1 hh.2
    rw [b, h] at this
    cases this
end Go.Proofs.Ytaffgoacbiedlaa
