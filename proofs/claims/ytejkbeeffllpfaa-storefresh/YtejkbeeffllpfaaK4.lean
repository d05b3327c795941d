import Derived.Test.YtejkbeeffllpfaaK3
namespace Go.Proofs.Ytejkbeeffllpfaa
open Go.RowKit
set_option linter.unusedVariables false

/-- Where the piece i of the bytes from off on begins. -/
def pos (off k i : Nat) : Nat := if i = 0 then off else min (off + k) ((off / 64 + i) * 64)
def pcN (off k : Nat) : Nat := if k = 0 then 0 else (off + k - 1) / 64 - off / 64 + 1
theorem pos_zero (off k : Nat) : pos off k 0 = off := by simp [pos]
theorem pos_more (off k i : Nat) : i < pcN off k ↔ pos off k i < off + k := by
  unfold pcN pos
  by_cases hk : k = 0
  · simp [hk]
    split <;> omega
  · rw [if_neg hk]
    by_cases hi : i = 0
    · simp [hi]; omega
    · rw [if_neg hi]
      omega
theorem pos_end (off k : Nat) : pos off k (pcN off k) = off + k := by
  unfold pcN pos
  by_cases hk : k = 0
  · simp [hk]
  · rw [if_neg hk, if_neg (by omega)]
    omega
theorem pos_le (off k i : Nat) : off ≤ pos off k i ∧ pos off k i ≤ off + k := by
  unfold pos
  split <;> omega
theorem pos_div {off k i : Nat} (h : pos off k i < off + k) : pos off k i / 64 = off / 64 + i := by
  unfold pos at h ⊢
  split <;> rename_i hi
  · omega
  · rw [if_neg hi] at h
    omega
theorem pos_next {off k i : Nat} (h : pos off k i < off + k) : pos off k (i + 1) = pos off k i + min (off + k - pos off k i) (64 - pos off k i % 64) := by
  have h1 := pos_div h
  have h2 : pos off k (i + 1) = min (off + k) ((off / 64 + (i + 1)) * 64) := by simp [pos]
  rw [h2]
  omega
/-- The cells of the pieces. -/
def pcV (pages : List Nat) (off k i : Nat) : List Value := [.int .i64 ((pages.getD (off / 64 + i) 0 : Nat) : Int), .int .i64 ((pos off k i % 64 : Nat) : Int), .int .i64 ((pos off k (i + 1) - pos off k i : Nat) : Int)]
def pcs (pages : List Nat) (off k : Nat) : Nat → List Value
  | 0 => []
  | c + 1 => pcs pages off k c ++ pcV pages off k c
theorem pcs_length (pages : List Nat) (off k : Nat) : ∀ c, (pcs pages off k c).length = 3 * c
  | 0 => rfl
  | c + 1 => by rw [pcs, List.length_append, pcs_length pages off k c]; simp [pcV]; omega
theorem pcs_get (pages : List Nat) (off k : Nat) (j : Nat) (hj : j < 3) : ∀ c i, i < c → (pcs pages off k c)[3 * i + j]? = (pcV pages off k i)[j]?
  | 0, i, h => by omega
  | c + 1, i, h => by
    rw [pcs]
    by_cases e : i = c
    · subst e
      rw [List.getElem?_append_right (by rw [pcs_length]; omega), pcs_length]
      congr 1
      omega
    · rw [List.getElem?_append_left (by rw [pcs_length]; omega)]
      exact pcs_get pages off k j hj c i (by omega)
theorem own_below {w w1 : World} {base : Nat} {e : TypeId} {size : Nat} {v : Value} {n : Nat} {xs : List Value} (hb : Below w.heap.size w w1) (h : w.ownsRow base e size v n xs) : w1.ownsRow base e size v n xs := own_but (S := fun _ => False) (But.of hb) h (fun _ _ h => h)
theorem append_piece {w : World} {base : Nat} {a : Option Addr} {i cap : Nat} {L : List Value} (x y z : Int) (h : w.ownsRow base 75 3 (.slice a i cap) i L) (hb : base ≤ w.heap.size) (hi : i ≤ 4096) (bk : Nat) (hbk : bk = w.heap.size) :
    ∃ a' cap' w', (Builtin.append_ #[72, 72] 72 #[.slice a i cap, .slice (some ⟨bk, 0, none⟩) 1 1]).run Try.prog (w.alloc (.cells #[.int .i64 x, .int .i64 y, .int .i64 z] 75)) = .ok (.slice a' (i + 1) cap') w' ∧ w'.ownsRow base 75 3 (.slice a' (i + 1) cap') (i + 1) (L ++ [.int .i64 x, .int .i64 y, .int .i64 z]) ∧ Below base w w' := by
  subst hbk
  obtain ⟨i0, hi0, hz0, hz1, hz2⟩ := info_parts info75
  have o1 := own_below (below1 w (.cells #[.int .i64 x, .int .i64 y, .int .i64 z] 75)) h
  have hnew : ∀ j u, [Value.int .i64 x, .int .i64 y, .int .i64 z][j]? = some u → (w.alloc (.cells #[.int .i64 x, .int .i64 y, .int .i64 z] 75)).cell? ((⟨w.heap.size, 0, none⟩ : Addr).add j) = some u := by
    intro j u hu
    rw [addr_add0]
    have hj : j < 3 := (List.getElem?_eq_some_iff.1 hu).1
    have : j = 0 ∨ j = 1 ∨ j = 2 := by omega
    rcases this with rfl | rfl | rfl <;> (simp at hu; subst hu; simp [go_sem])
  obtain ⟨v2, w2, hr2, o2, g2, _, _⟩ := run_append_own_at (P := Try.prog) (w.alloc (.cells #[.int .i64 x, .int .i64 y, .int .i64 z] 75)) base 72 72 75 i0 _ 3 24 Try.underlying72 hi0 hz0 hz1 hz2 rfl (by decide) _ i _ o1 ⟨w.heap.size, 0, none⟩ 1 1 [.int .i64 x, .int .i64 y, .int .i64 z] rfl hnew (fun u hu => by
    simp only [List.mem_cons, List.not_mem_nil, or_false] at hu
    rcases hu with rfl | rfl | rfl <;> rfl) (by unfold maxLen; omega) (by omega) (by simp; omega)
  obtain ⟨a', cap', rfl⟩ : ∃ a' cap', v2 = .slice a' (i + 1) cap' := by
    rcases o2.2 with ⟨h, h'⟩ | ⟨g', cap', _, h, _⟩
    · omega
    · exact ⟨_, cap', h⟩
  exact ⟨a', cap', w2, hr2, o2, ((below1 w (.cells #[.int .i64 x, .int .i64 y, .int .i64 z] 75)).mono hb).grown g2 (by simp; omega) (fun j hj => (own_block o1 j hj).1)⟩
/-- A number's size, for measures. -/
def ivN : Value → Nat
  | .int _ a => a.toNat
  | _ => 0
def PcRel (w : World) (pages : List Nat) (off k : Nat) (v1 v2 v7 : Value) (w' : World) : Prop :=
  ∃ (i p : Nat) (a : Option Addr) (cap : Nat), v1 = .int .i64 (p : Int) ∧ v2 = .int .i64 ((off + k - p : Nat) : Int) ∧ v7 = .slice a i cap ∧ p = pos off k i ∧ i ≤ pcN off k ∧ w'.ownsRow w.heap.size 75 3 (.slice a i cap) i (pcs pages off k i) ∧ Below w.heap.size w w'
theorem pc_next {W w2 : World} {pages : List Nat} {off k i p r u st q pg f cap' : Nat} {a' : Option Addr} (hp : p = pos off k i) (hq : q < pages.length) (hE : off + k - p = r ∧ p % 64 = st ∧ 64 - st = u ∧ q = off / 64 + i ∧ pg = pages[q] ∧ pos off k (i + 1) = p + min r u) (hi : i < pcN off k) (hf : f = min r u)
    (hO : w2.ownsRow W.heap.size 75 3 (.slice a' (i + 1) cap') (i + 1) (pcs pages off k i ++ [.int .i64 (pg : Int), .int .i64 (st : Int), .int .i64 (f : Int)])) (hB : Below W.heap.size W w2) :
    PcRel W pages off k (.int .i64 ((p : Int) + (f : Int))) (.int .i64 ((r : Int) - (f : Int))) (.slice a' (i + 1) cap') w2 := by
  obtain ⟨e1, e2, e3, e4, e5, e6⟩ := hE
  refine ⟨i + 1, p + f, a', cap', by rw [Int.natCast_add], ?_, rfl, by rw [e6, hf], by omega, ?_, hB⟩
  · congr 1
    omega
  · have e : pcV pages off k i = [.int .i64 (pg : Int), .int .i64 (st : Int), .int .i64 (f : Int)] := by
      unfold pcV
      rw [← hp, e2, e6, ← e4, e5, List.getD_eq_getElem?_getD, List.getElem?_eq_getElem hq, hf, Nat.add_sub_cancel_left]
      rfl
    rw [pcs, e]
    exact hO
set_option maxRecDepth 100000 in
set_option maxHeartbeats 1000000 in
theorem pieces_any (sz : Int) (adr : Option Addr) (pages : List Nat) (off k : Nat) (w : World) (hR : Row w adr pages.length pages.length (ints (nats pages))) (ho : off + k ≤ 64 * pages.length) (hb : off + k ≤ 4096) :
    Calls Try.prog 29 #[.agg #[.int .i64 sz, .slice adr pages.length pages.length], .int .i64 (off : Int), .int .i64 (k : Int)] w fun e w' => ∃ a cap, e = .returned (.slice a (pcN off k) cap) ∧ w'.ownsRow w.heap.size 75 3 (.slice a (pcN off k) cap) (pcN off k) (pcs pages off k (pcN off k)) ∧ Below w.heap.size w w' := by
  have HR := hid hR
  obtain ⟨W, hW⟩ : ∃ W, W = w.alloc (.cells #[.int .i64 sz, .slice adr pages.length pages.length] 69) := ⟨_, rfl⟩
  have HBW : Hid (Below w.heap.size w W) := hid (by rw [hW]; exact below1 _ _)
  have HC : Hid (W.cell? ⟨w.heap.size, 1, none⟩ = some (.slice adr pages.length pages.length)) := hid (by rw [hW]; exact (lies_new _ _ _ 1 _ rfl).1)
  have HWS : Hid (w.heap.size < W.heap.size) := hid (by rw [hW]; simp)
  have HO := hid ho
  clear hR ho
  go_enter Try.func29, Try.ntmps29
  go_upto_region 2 with fail
  rw [← hW]
  clear hW
  go_loopw [1, 2, 7] (PcRel W pages off k) (fun _ n _ _ => ivN n)
  case atStart => exact ⟨0, off, none, 0, rfl, by rw [Nat.add_sub_cancel_left], rfl, (pos_zero _ _).symm, Nat.zero_le _, ⟨rfl, .inl ⟨rfl, rfl⟩⟩, Below.refl _ _⟩
  case round =>
    obtain ⟨i, p, a, cap, rfl, rfl, rfl, hp, hi, hO, hB⟩ := hrel
    have hpl := pos_le off k i
    rw [← hp] at hpl
    have HP := hid hp
    have HB := hid hB
    have HOW := hid hO
    clear hB hO
    by_cases hlt : p < off + k
    · have h1 := pos_div (off := off) (k := k) (i := i) (by omega)
      have h2 := pos_next (off := off) (k := k) (i := i) (by omega)
      have hin := (pos_more off k i).2 (by omega)
      rw [← hp] at h1 h2
      obtain ⟨r, hr⟩ : ∃ r, r = off + k - p := ⟨_, rfl⟩
      rw [← hr] at h2
      rw [← hr]
      obtain ⟨st, hst⟩ : ∃ st, st = p % 64 := ⟨_, rfl⟩
      rw [← hst] at h2
      have hst64 : st < 64 := by omega
      obtain ⟨u, hu⟩ : ∃ u, u = 64 - st := ⟨_, rfl⟩
      obtain ⟨q, hq⟩ : ∃ q, q = off / 64 + i := ⟨_, rfl⟩
      have hrem : (p : Int) % 64 = (st : Int) := by omega
      have hquo : (p : Int) / 64 = (q : Int) := by omega
      have hqn : p / 64 = q := by omega
      have h64 : (64 : Int) - (st : Int) = (u : Int) := by omega
      have hr0 : 0 < r := by omega
      have hr1 : r ≤ 4096 := by omega
      have hp1 : p ≤ 4096 := by omega
      have hu1 : u ≤ 64 := by omega
      have hql : q < pages.length := by have := HO.out; omega
      obtain ⟨pg, hpg⟩ : ∃ pg, pg = pages[q] := ⟨_, rfl⟩
      obtain ⟨bb, oo, rfl, hcell⟩ := HR.out.plain (by omega)
      have y0 := cell_later HB.out HC.out
      have y1 := cell_later HB.out (cell_later HBW.out (hcell q _ (ints_nats_get pages q hql)))
      rw [← hpg] at y1
      have HE := hid (show (off + k - p = r ∧ p % 64 = st ∧ 64 - st = u ∧ q = off / 64 + i ∧ pg = pages[q] ∧ pos off k (i + 1) = p + min r u) from ⟨hr.symm, hst.symm, hu.symm, hq, hpg, by rw [hu]; exact h2⟩)
      have HI := hid hin
      have HI0 := hid hi
      clear hcell hr hst hu hq hpg h1 h2 hp hlt hpl hin hi
      by_cases hm : r ≤ u
      · have hm2 : (r : Int) ≤ (u : Int) := by omega
        obtain ⟨a', cap', w2, hrun, hO2, hB2⟩ := append_piece (pg : Int) (st : Int) (r : Int) HOW.out HB.out.size (by have := HI.out; unfold pcN at this; split at this <;> omega) wr.heap.size rfl
        have HRUN := hid hrun
        have HO2 := hid hO2
        have HB2 := hid (HB.out.trans hB2)
        clear hrun hO2 hB2
        go_wp2_with (first | (at_builtin; refine wpList_append_known rfl _ _ 72 rfl _ _ rfl rfl _ w2 HRUN.out ?_))
        refine ⟨?_, by simp [ivN]; omega⟩
        have := pc_next HP.out hql HE.out HI.out (f := r) (by omega) HO2.out HB2.out
        simpa using this
      · have hm1 : u < r := by omega
        have hm2 : (u : Int) < (r : Int) := by omega
        obtain ⟨a', cap', w2, hrun, hO2, hB2⟩ := append_piece (pg : Int) (st : Int) (u : Int) HOW.out HB.out.size (by have := HI.out; unfold pcN at this; split at this <;> omega) wr.heap.size rfl
        have HRUN := hid hrun
        have HO2 := hid hO2
        have HB2 := hid (HB.out.trans hB2)
        clear hrun hO2 hB2
        go_wp2_with (first | (at_builtin; refine wpList_append_known rfl _ _ 72 rfl _ _ rfl rfl _ w2 HRUN.out ?_))
        exact ⟨pc_next HP.out hql HE.out HI.out (by omega) HO2.out HB2.out, by simp [ivN]; have := HE.out; omega⟩
    · obtain rfl : p = off + k := by omega
      have hie : i = pcN off k := by
        have h1 := pos_more off k i
        omega
      have HIE := hid hie
      have e0 : off + k - (off + k) = 0 := by omega
      rw [e0]
      simp only [Int.cast_ofNat_Int]
      clear hie hp e0 hi hpl hlt
      go_wp2
      go_ret
      rw [HIE.out] at HOW
      refine ⟨a, cap, by rw [HIE.out]; rfl, ?_, below_call HBW.out HB.out⟩
      exact own_mono HOW.out (Nat.le_of_lt HWS.out)
end Go.Proofs.Ytejkbeeffllpfaa
